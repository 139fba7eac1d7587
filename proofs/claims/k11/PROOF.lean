import PyProof.Rows.All
import PySem.Challenge.RW_suredue_k11_letters_judged
import HandS.Codes
import HandS.Comp
import HandS.Deep
import HandS.ExcField
import HandS.ExcInit
import HandS.ExcIs
import HandS.FStr
import HandS.Flow
import HandS.ForExc
import HandS.ForMost
import HandS.IsInst
import HandS.Rev
import HandS.SetFor
import HandS.Sort
import HandS.SortInts
import HandS.Strs
import HandS.Style
import HandS.TryOnly
import HandS.TupAny
import HandS.TupLe
import HandS.TupMul
import HandS.TupSets
import HandS.Zip
import KE.DatumOrd
import KE.GoesMore
import KE.KExcInit
import KE.KExcLine
import KE.KTupSum
import KE.KeyNested
import KE.SortData
import OpenK.AllK
import PyProof.P3Eq
import PyProof.Rows.InDataRows
import Wide.All
import Wide.FinOn
set_option Elab.async false
set_option linter.all false
set_option maxRecDepth 100000
set_option maxHeartbeats 4000000
/-! The mill, part 1: data without addresses, a store of lists, what represents them in the layer's heap; outcomes; readings. -/
namespace Ml
open PySem PySem.Spec L2

/-- data: tuples by value, lists by their number in the store -/
inductive T5 where
  | int | bool | str | list | tuple
def T5.name : T5 → String
  | .int => "int" | .bool => "bool" | .str => "str" | .list => "list" | .tuple => "tuple"
inductive D where
  | non | bl (b : Bool) | int (i : Int) | str (s : Str) | ty (n : T5) | ref (n : Nat) | tup (xs : List D)
/-- a list in the store: one that may be written, one that is only read -/
inductive Cl where
  | lst (xs : List D) | ro (xs : List D)
abbrev Sto := List Cl
/-- an exception: its class's name, its fields -/
structure XD where
  cls : Str
  fs : List (Str × D)
inductive R (β : Type) where
  | ok (a : β) (h : Sto) | ex (e : XD) (h : Sto) | no
def R.bind {β γ : Type} (r : R β) (f : β → Sto → R γ) : R γ := match r with
  | .ok a h => f a h
  | .ex e h => .ex e h
  | .no => .no
abbrev Sl := List (Option D)
/-- a statement's outcome -/
inductive O where
  | nx (ρ : Sl) (h : Sto) | rt (d : D) (h : Sto) | bk (ρ : Sl) (h : Sto) | ct (ρ : Sl) (h : Sto) | ex (e : XD) (ρ : Sl) (h : Sto) | no
abbrev MG (β : Type) := Sl → Sto → R β
abbrev ME := MG D
abbrev MA := MG (List D)
abbrev MT := MG Bool
abbrev MS := Sl → Sto → O

/-! ### what represents data -/
mutual
def Rep (K : PySem.W.Frag) (α : List Addr) (H : Hp) : D → V → Prop
  | .non, v => v = .non
  | .bl b, v => v = .bl b
  | .int i, v => v = .int i
  | .str s, v => v = .str s
  | .ty n, v => v = .ty n.name
  | .ref n, v => ∃ a, α[n]? = some a ∧ v = .ref a
  | .tup xs, v => ∃ a vs, v = .ref a ∧ SqT K H a vs ∧ Reps K α H xs vs
def Reps (K : PySem.W.Frag) (α : List Addr) (H : Hp) : List D → List V → Prop
  | [], vs => vs = []
  | d :: ds, vs => ∃ v r, vs = v :: r ∧ Rep K α H d v ∧ Reps K α H ds r
end
structure Ext (K : PySem.W.Frag) (α : List Addr) (H : Hp) (α' : List Addr) (H' : Hp) : Prop where
  pre : ∃ l, α' = α ++ l
  fsh : ∀ a, a ∈ α' → a ∉ α → H a = none
  dom : ∀ a, H a ≠ none → H' a ≠ none
  far : ∀ a vs, a ∉ α → H a = some (.lst vs) → H' a = some (.lst vs)
  frz : ∀ a o x, H a = some (.frz o x) → H' a = some (.frz o x)
  tup : ∀ a xs, SqT K H a xs → SqT K H' a xs
  xd : ∀ a fs, H a = some (.xd fs) → H' a = some (.xd fs)
theorem Ext.refl {K : PySem.W.Frag} {α : List Addr} {H : Hp} : Ext K α H α H := ⟨⟨[], by simp⟩, fun _ h n => absurd h n, fun _ h => h, fun _ _ _ h => h, fun _ _ _ h => h, fun _ _ h => h, fun _ _ h => h⟩
theorem Ext.trans {K : PySem.W.Frag} {α α1 α2 : List Addr} {H H1 H2 : Hp} (e : Ext K α H α1 H1) (f : Ext K α1 H1 α2 H2) : Ext K α H α2 H2 := by
  obtain ⟨⟨l, rfl⟩, n, dm, fr, fz, t, x⟩ := e
  obtain ⟨⟨m, rfl⟩, n2, dm2, fr2, fz2, u, y⟩ := f
  refine ⟨⟨l ++ m, by simp⟩, fun a ha hn => ?_, fun a h => dm2 a (dm a h), fun a vs hn h => fr2 a vs (fun hm => ?_) (fr a vs hn h), fun a o z h => fz2 a o z (fz a o z h), fun a xs h => u a xs (t a xs h), fun a fs h => y a fs (x a fs h)⟩
  · by_cases hl : a ∈ α ++ l
    · exact n a hl hn
    · have z := n2 a ha hl
      cases q : H a with
      | none => rfl
      | some o => exact absurd z (dm a (by rw [q]; intro z; cases z))
  · have z := n a hm hn
    rw [z] at h; cases h
theorem Ext.at {K : PySem.W.Frag} {α α' : List Addr} {H H' : Hp} (e : Ext K α H α' H') {n : Nat} {a : Addr} (h : α[n]? = some a) : α'[n]? = some a := by
  obtain ⟨⟨l, rfl⟩, _⟩ := e
  rw [List.getElem?_append_left (List.getElem?_eq_some_iff.mp h).1]
  exact h
mutual
theorem Rep.ext {K : PySem.W.Frag} {α α' : List Addr} {H H' : Hp} (e : Ext K α H α' H') : ∀ (d : D) {v : V}, Rep K α H d v → Rep K α' H' d v
  | .non, _, h => h
  | .bl _, _, h => h
  | .int _, _, h => h
  | .str _, _, h => h
  | .ty _, _, h => h
  | .ref _, _, ⟨a, h, q⟩ => ⟨a, e.at h, q⟩
  | .tup xs, _, ⟨a, vs, q, h, r⟩ => ⟨a, vs, q, e.tup a vs h, Reps.ext e xs r⟩
theorem Reps.ext {K : PySem.W.Frag} {α α' : List Addr} {H H' : Hp} (e : Ext K α H α' H') : ∀ (ds : List D) {vs : List V}, Reps K α H ds vs → Reps K α' H' ds vs
  | [], _, h => h
  | d :: ds, _, ⟨v, r, q, h, t⟩ => ⟨v, r, q, Rep.ext e d h, Reps.ext e ds t⟩
end
section
variable {K : PySem.W.Frag} {α : List Addr} {H : Hp}
theorem Reps.length : ∀ {ds : List D} {vs : List V}, Reps K α H ds vs → vs.length = ds.length
  | [], _, h => by cases h; rfl
  | _ :: _, _, ⟨_, _, q, _, t⟩ => by subst q; simp [Reps.length t]
theorem Reps.get : ∀ {ds : List D} {vs : List V} {i : Nat} {d : D}, Reps K α H ds vs → ds[i]? = some d → ∃ v, vs[i]? = some v ∧ Rep K α H d v
  | [], _, _, _, _, e => by simp at e
  | d :: ds, _, 0, d', ⟨v, r, q, h, t⟩, e => by subst q; simp at e; subst e; exact ⟨v, rfl, h⟩
  | d :: ds, _, i + 1, d', ⟨v, r, q, h, t⟩, e => by
    subst q
    obtain ⟨w, h1, h2⟩ := Reps.get (i := i) t (by simpa using e)
    exact ⟨w, by simpa using h1, h2⟩
theorem Reps.get' : ∀ {ds : List D} {vs : List V} {i : Nat} {v : V}, Reps K α H ds vs → vs[i]? = some v → ∃ d, ds[i]? = some d ∧ Rep K α H d v
  | [], _, _, _, h, e => by cases h; simp at e
  | d :: ds, _, 0, v', ⟨v, r, q, h, t⟩, e => by subst q; simp at e; subst e; exact ⟨d, rfl, h⟩
  | d :: ds, _, i + 1, v', ⟨v, r, q, h, t⟩, e => by
    subst q
    obtain ⟨w, h1, h2⟩ := Reps.get' (i := i) t (by simpa using e)
    exact ⟨w, by simpa using h1, h2⟩
theorem Reps.append : ∀ {ds es : List D} {vs us : List V}, Reps K α H ds vs → Reps K α H es us → Reps K α H (ds ++ es) (vs ++ us)
  | [], _, _, _, h, t => by cases h; exact t
  | _ :: _, _, _, _, ⟨v, r, q, h, t⟩, u => by subst q; exact ⟨v, r ++ _, rfl, h, Reps.append t u⟩
theorem Reps.take : ∀ {ds : List D} {vs : List V} (n : Nat), Reps K α H ds vs → Reps K α H (ds.take n) (vs.take n)
  | _, _, 0, _ => by simp [Reps]
  | [], _, n + 1, h => by cases h; simp [Reps]
  | _ :: _, _, n + 1, ⟨v, r, q, h, t⟩ => by subst q; exact ⟨v, _, rfl, h, Reps.take n t⟩
theorem Reps.drop : ∀ {ds : List D} {vs : List V} (n : Nat), Reps K α H ds vs → Reps K α H (ds.drop n) (vs.drop n)
  | _, _, 0, h => by simpa using h
  | [], _, n + 1, h => by cases h; simp [Reps]
  | _ :: _, _, n + 1, ⟨v, r, q, h, t⟩ => by subst q; exact Reps.drop n t
theorem Reps.set : ∀ {ds : List D} {vs : List V} {d : D} {v : V} (n : Nat), Reps K α H ds vs → Rep K α H d v → Reps K α H (ds.set n d) (vs.set n v)
  | [], _, _, _, n, h, _ => by cases h; simp [Reps]
  | _ :: _, _, _, _, 0, ⟨v, r, q, h, t⟩, x => by subst q; exact ⟨_, r, rfl, x, t⟩
  | _ :: _, _, _, _, n + 1, ⟨v, r, q, h, t⟩, x => by subst q; exact ⟨v, _, rfl, h, Reps.set n t x⟩
theorem Reps.one {d : D} {v : V} (h : Rep K α H d v) : Reps K α H [d] [v] := ⟨v, [], rfl, h, rfl⟩
theorem Reps.nil : Reps K α H [] [] := rfl
end

/-! ### stores -/
/-- a list that stands still: locked, or an object of the module -/
def SqR (K : PySem.W.Frag) (H : Hp) (a : Addr) (xs : List V) : Prop :=
  (∃ o, H a = some (.frz o (.lst xs))) ∨
    ∃ (o : Obj) (its : Array Value) (n : Nat), K.lookup a = some o ∧ o.cls = .type "list" ∧ o.dict = none ∧ o.data = .seq its n ∧ its.size ≤ sizeLine ∧ Vals xs its.toList
theorem SqR.sq {K : PySem.W.Frag} {H : Hp} {a : Addr} {xs : List V} (h : SqR K H a xs) : SqL K H a xs := by
  rcases h with ⟨o, h⟩ | h
  · exact .inl (.inr ⟨o, h⟩)
  · exact .inr h
def ClOk (K : PySem.W.Frag) (α : List Addr) (H : Hp) (a : Addr) : Cl → Prop
  | .lst xs => ∃ vs, H a = some (.lst vs) ∧ Reps K α H xs vs
  | .ro xs => ∃ vs, SqR K H a vs ∧ Reps K α H xs vs
structure RelH (K : PySem.W.Frag) (α : List Addr) (h : Sto) (H : Hp) : Prop where
  inj : ∀ (i j : Nat) (a : Addr) (xs ys : List D), h[i]? = some (Cl.lst xs) → h[j]? = some (Cl.lst ys) → α[i]? = some a → α[j]? = some a → i = j
  len : α.length = h.length
  ro : ∀ (i : Nat) (xs : List D), h[i]? = some (Cl.ro xs) → ∃ ns : List Int, xs = ns.map D.int
  cell : ∀ (i : Nat) (c : Cl), h[i]? = some c → ∃ a, α[i]? = some a ∧ ClOk K α H a c
/-- slots -/
structure RelE (K : PySem.W.Frag) (α : List Addr) (H : Hp) (ρ : Sl) (σ : L2.St) : Prop where
  len : ρ.length = σ.length
  at' : ∀ (i : Nat) (d : D), ρ[i]? = some (some d) → ∃ v, σ[i]? = some (some v) ∧ Rep K α H d v
theorem RelE.ext {K : PySem.W.Frag} {α α' : List Addr} {H H' : Hp} {ρ : Sl} {σ : L2.St} (r : RelE K α H ρ σ) (e : Ext K α H α' H') : RelE K α' H' ρ σ :=
  ⟨r.len, fun i d h => let ⟨v, h1, h2⟩ := r.at' i d h; ⟨v, h1, Rep.ext e d h2⟩⟩
theorem RelE.set {K : PySem.W.Frag} {α : List Addr} {H : Hp} {ρ : Sl} {σ : L2.St} (r : RelE K α H ρ σ) (i : Nat) {d : D} {v : V} (h : Rep K α H d v) : RelE K α H (ρ.set i (some d)) (σ.set i (some v)) := by
  refine ⟨by simp [r.len], fun j d' e => ?_⟩
  by_cases hj : i = j
  · subst hj
    by_cases hi : i < ρ.length
    · rw [List.getElem?_set_self hi] at e
      cases e
      exact ⟨v, by rw [List.getElem?_set_self (by rw [← r.len]; exact hi)], h⟩
    · rw [List.getElem?_eq_none (by simpa using hi)] at e; cases e
  · rw [List.getElem?_set_ne hj] at e
    rw [List.getElem?_set_ne hj]
    exact r.at' j d' e
/-- fewer known slots -/
theorem RelE.weak {K : PySem.W.Frag} {α : List Addr} {H : Hp} {ρ ρ' : Sl} {σ σ' : L2.St} (r : RelE K α H ρ σ) (hl : ρ'.length = σ'.length) (w : ∀ (i : Nat) (d : D), ρ'[i]? = some (some d) → ρ[i]? = some (some d) ∧ σ'[i]? = σ[i]?) : RelE K α H ρ' σ' :=
  ⟨hl, fun i d e => let ⟨h1, h2⟩ := w i d e; let ⟨v, h3, h4⟩ := r.at' i d h1; ⟨v, h2.trans h3, h4⟩⟩

section
variable {K : PySem.W.Frag} {α : List Addr} {h : Sto} {H : Hp}
theorem sqT_upd_new {a p : Addr} {xs : List V} {o : HO} (hp : H p = none) (x : SqT K H a xs) : SqT K (upd H p o) a xs := by
  rcases x with (x | ⟨o', x⟩) | x
  · exact .inl (.inl (by rw [upd_ne (ne_of_none x hp)]; exact x))
  · exact .inl (.inr ⟨o', by rw [upd_ne (ne_of_none x hp)]; exact x⟩)
  · exact .inr x
theorem sqR_upd_new {a p : Addr} {xs : List V} {o : HO} (hp : H p = none) (x : SqR K H a xs) : SqR K (upd H p o) a xs := by
  rcases x with ⟨o', x⟩ | x
  · exact .inl ⟨o', by rw [upd_ne (ne_of_none x hp)]; exact x⟩
  · exact .inr x
theorem sqT_upd_lst {a p : Addr} {xs vs : List V} {o : HO} (hp : H p = some (.lst vs)) (x : SqT K H a xs) : SqT K (upd H p o) a xs := by
  rcases x with (x | ⟨o', x⟩) | x
  · exact .inl (.inl (by rw [upd_ne (ne_of x hp (by intro z; cases z))]; exact x))
  · exact .inl (.inr ⟨o', by rw [upd_ne (ne_of x hp (by intro z; cases z))]; exact x⟩)
  · exact .inr x
theorem sqR_upd_lst {a p : Addr} {xs vs : List V} {o : HO} (hp : H p = some (.lst vs)) (x : SqR K H a xs) : SqR K (upd H p o) a xs := by
  rcases x with ⟨o', x⟩ | x
  · exact .inl ⟨o', by rw [upd_ne (ne_of x hp (by intro z; cases z))]; exact x⟩
  · exact .inr x
theorem Ext.new {p : Addr} {o : HO} (hp : H p = none) (l : List Addr) (hl : ∀ a, a ∈ l → a = p := by intro a h; simpa using h) : Ext K α H (α ++ l) (upd H p o) := by
  have ne : ∀ {a : Addr} {z : HO}, H a = some z → upd H p o a = some z := fun {a z} h => by rw [upd_ne (ne_of_none h hp)]; exact h
  refine ⟨⟨l, rfl⟩, fun a h n => ?_, fun a h => ?_, fun a vs _ h => ne h, fun a _ x h => ne h, fun _ _ x => sqT_upd_new hp x, fun _ _ x => ne x⟩
  · rcases List.mem_append.mp h with q | q
    · exact absurd q n
    · rw [hl a q]; exact hp
  · cases q : H a with
    | none => exact absurd q h
    | some z => rw [ne q]; intro z; cases z
theorem Ext.newTup {p : Addr} {o : HO} (hp : H p = none) : Ext K α H α (upd H p o) := by have := Ext.new (K := K) (α := α) (o := o) hp [] (fun _ h => nomatch h); simpa using this
theorem ClOk.ext {α' : List Addr} {H' : Hp} {a : Addr} {c : Cl} (e : Ext K α H α' H') (h1 : ∀ vs, H a = some (.lst vs) → H' a = some (.lst vs)) (h2 : ∀ xs, SqR K H a xs → SqR K H' a xs) (x : ClOk K α H a c) : ClOk K α' H' a c := by
  cases c with
  | lst xs => obtain ⟨vs, q, r⟩ := x; exact ⟨vs, h1 _ q, Reps.ext e xs r⟩
  | ro xs => obtain ⟨vs, q, r⟩ := x; exact ⟨vs, h2 _ q, Reps.ext e xs r⟩
theorem RelH.newTup {p : Addr} {o : HO} (r : RelH K α h H) (hp : H p = none) : RelH K α h (upd H p o) :=
  ⟨r.inj, r.len, r.ro, fun i c e => by
    obtain ⟨a, q, x⟩ := r.cell i c e
    exact ⟨a, q, x.ext (Ext.newTup hp) (fun u hu => by rw [upd_ne (ne_of_none hu hp)]; exact hu) fun xs hx => sqR_upd_new hp hx⟩⟩
theorem RelH.newLst {p : Addr} {ds : List D} {vs : List V} (r : RelH K α h H) (hp : H p = none) (x : Reps K α H ds vs) : RelH K (α ++ [p]) (h ++ [.lst ds]) (upd H p (.lst vs)) := by
  have e : Ext K α H (α ++ [p]) (upd H p (.lst vs)) := Ext.new hp [p]
  have old : ∀ (i : Nat) (c : Cl), i < h.length → (h ++ [Cl.lst ds])[i]? = some c → h[i]? = some c := fun i c hi hc => by
    rw [List.getElem?_append_left hi] at hc; exact hc
  have new : ∀ (i : Nat) (c : Cl), ¬ i < h.length → (h ++ [Cl.lst ds])[i]? = some c → i = h.length ∧ c = .lst ds := fun i c hi hc => by
    have hi' : i = h.length := by
      have := (List.getElem?_eq_some_iff.mp hc).1
      simp at this
      omega
    subst hi'
    rw [List.getElem?_append_right (Nat.le_refl _)] at hc
    simp at hc
    exact ⟨rfl, hc.symm⟩
  have oldA : ∀ (i : Nat) (a : Addr), i < h.length → (α ++ [p])[i]? = some a → α[i]? = some a := fun i a hi ha => by
    rw [List.getElem?_append_left (by rw [r.len]; exact hi)] at ha; exact ha
  have newA : ∀ (a : Addr), (α ++ [p])[h.length]? = some a → a = p := fun a ha => by
    rw [← r.len, List.getElem?_append_right (Nat.le_refl _)] at ha
    simp at ha
    exact ha.symm
  have apart : ∀ (i : Nat) (xs : List D), h[i]? = some (Cl.lst xs) → α[i]? = some p → False := fun i xs hc ha => by
    obtain ⟨a, q, vs', y, _⟩ := r.cell i _ hc
    rw [ha] at q; cases q
    rw [hp] at y; cases y
  refine ⟨fun i j a xs ys h1 h2 h3 h4 => ?_, by simp [r.len], fun i xs hc => ?_, fun i c hc => ?_⟩
  rotate_left
  · by_cases hi : i < h.length
    · exact r.ro i xs (old _ _ hi hc)
    · obtain ⟨_, z⟩ := new i _ hi hc; cases z
  rotate_left
  · by_cases hi : i < h.length
    · by_cases hj : j < h.length
      · exact r.inj i j a xs ys (old _ _ hi h1) (old _ _ hj h2) (oldA _ _ hi h3) (oldA _ _ hj h4)
      · obtain ⟨rfl, _⟩ := new j _ hj h2
        have := newA a h4
        subst this
        exact (apart i xs (old _ _ hi h1) (oldA _ _ hi h3)).elim
    · obtain ⟨rfl, _⟩ := new i _ hi h1
      have := newA a h3
      subst this
      by_cases hj : j < h.length
      · exact (apart j ys (old _ _ hj h2) (oldA _ _ hj h4)).elim
      · exact (new j _ hj h2).1.symm
  · by_cases hi : i < h.length
    · obtain ⟨a, q, y⟩ := r.cell i c (old _ _ hi hc)
      exact ⟨a, e.at q, y.ext e (fun u hu => by rw [upd_ne (ne_of_none hu hp)]; exact hu) fun xs hx => sqR_upd_new hp hx⟩
    · obtain ⟨rfl, rfl⟩ := new i _ hi hc
      refine ⟨p, ?_, vs, upd_same, Reps.ext e ds x⟩
      rw [← r.len, List.getElem?_append_right (Nat.le_refl _)]
      simp
/-- a list is written -/
theorem RelH.write {n : Nat} {a : Addr} {xs ds : List D} {vs : List V} (r : RelH K α h H) (hn : h[n]? = some (Cl.lst xs)) (ha : α[n]? = some a) (x : Reps K α H ds vs) : RelH K α (h.set n (.lst ds)) (upd H a (.lst vs)) ∧ Ext K α H α (upd H a (.lst vs)) := by
  obtain ⟨a', ha', vs0, hH, _⟩ := r.cell n _ hn
  rw [ha] at ha'; cases ha'
  have hl : n < h.length := (List.getElem?_eq_some_iff.mp hn).1
  have e : Ext K α H α (upd H a (.lst vs)) := ⟨⟨[], by simp⟩, fun _ h n => absurd h n, fun b h => by
    by_cases q : b = a
    · rw [q, upd_same]; intro z; cases z
    · rw [upd_ne q]; exact h, fun b ws hb y => by rw [upd_ne (fun q : b = a => hb (by rw [q]; exact List.mem_of_getElem? ha))]; exact y, fun _ _ _ y => by rw [upd_ne (ne_of y hH (by intro z; cases z))]; exact y, fun _ _ y => sqT_upd_lst hH y, fun _ _ y => by rw [upd_ne (ne_of y hH (by intro z; cases z))]; exact y⟩
  have back : ∀ (i : Nat) (ys : List D), (h.set n (Cl.lst ds))[i]? = some (Cl.lst ys) → ∃ zs, h[i]? = some (Cl.lst zs) := fun i ys hi => by
    by_cases hni : n = i
    · subst hni; exact ⟨xs, hn⟩
    · rw [List.getElem?_set_ne hni] at hi; exact ⟨ys, hi⟩
  refine ⟨⟨fun i j b us ws h1 h2 h3 h4 => ?_, by simp [r.len], fun i ys hc => ?_, fun i c hc => ?_⟩, e⟩
  rotate_left
  · by_cases hi : n = i
    · subst hi; rw [List.getElem?_set_self hl] at hc; cases hc
    · rw [List.getElem?_set_ne hi] at hc; exact r.ro i ys hc
  rotate_left
  · obtain ⟨u1, e1⟩ := back i us h1
    obtain ⟨u2, e2⟩ := back j ws h2
    exact r.inj i j b u1 u2 e1 e2 h3 h4
  · by_cases hi : n = i
    · subst hi
      rw [List.getElem?_set_self hl] at hc
      cases hc
      exact ⟨a, ha, vs, upd_same, Reps.ext e ds x⟩
    · rw [List.getElem?_set_ne hi] at hc
      obtain ⟨b, q, y⟩ := r.cell i c hc
      refine ⟨b, q, ?_⟩
      cases c with
      | lst ys =>
        obtain ⟨us, hb, ru⟩ := y
        have hb' : b ≠ a := fun z => by
          subst z
          exact hi (r.inj n i b xs ys hn hc ha q)
        exact ⟨us, by rw [upd_ne hb']; exact hb, Reps.ext e ys ru⟩
      | ro ys =>
        obtain ⟨us, hb, ru⟩ := y
        exact ⟨us, sqR_upd_lst hH hb, Reps.ext e ys ru⟩
end
end Ml
/-! The mill, part 2: readings by outcomes. -/
namespace Ml
open PySem PySem.Spec L2

def RepX (K : PySem.W.Frag) (mg : Str → Option Value) (α : List Addr) (H : Hp) (e : XD) (cls : Value) (dd : Option Addr) : Prop :=
  ∃ C, mg e.cls = some (.ref C) ∧ cls = .ref C ∧ match dd with
    | none => e.fs = []
    | some d => ∃ fs, H d = some (.xd fs) ∧ fs.map (·.1) = e.fs.map (·.1) ∧ Reps K α H (e.fs.map (·.2)) (fs.map (·.2))
/-- an expression's outcome, wanted -/
def OkG {β γ : Type} (K : PySem.W.Frag) (mg : Str → Option Value) (W : WX) (σ : L2.St) (rep : List Addr → Hp → β → γ → Prop) (Q : γ → Hp → Prop) (α : List Addr) (H : Hp) : R β → Prop
  | .ok b h' => ∀ α' H' c, Ext K α H α' H' → RelH K α' h' H' → rep α' H' b c → Q c H'
  | .ex e h' => ∀ α' H' cls dd, Ext K α H α' H' → RelH K α' h' H' → RepX K mg α' H' e cls dd → W cls dd σ H'
  | .no => False
def OkS (K : PySem.W.Frag) (mg : Str → Option Value) (W : WX) (Dn : Ends) (α : List Addr) (H : Hp) : O → Prop
  | .nx ρ' h' => ∀ α' σ' H', Ext K α H α' H' → RelH K α' h' H' → RelE K α' H' ρ' σ' → Dn.nx σ' H'
  | .bk ρ' h' => ∀ α' σ' H', Ext K α H α' H' → RelH K α' h' H' → RelE K α' H' ρ' σ' → Dn.bk σ' H'
  | .ct ρ' h' => ∀ α' σ' H', Ext K α H α' H' → RelH K α' h' H' → RelE K α' H' ρ' σ' → Dn.ct σ' H'
  | .rt d h' => ∀ α' H' v, Ext K α H α' H' → RelH K α' h' H' → Rep K α' H' d v → Dn.rt v H'
  | .ex e ρ' h' => ∀ α' σ' H' cls dd, Ext K α H α' H' → RelH K α' h' H' → RelE K α' H' ρ' σ' → RepX K mg α' H' e cls dd → W cls dd σ' H'
  | .no => False
section
variable {K : PySem.W.Frag} {mg : Str → Option Value} {W : WX} {σ : L2.St} {α α1 : List Addr} {H H1 : Hp} {β β1 γ γ1 : Type} {rep : List Addr → Hp → β → γ → Prop} {rep1 : List Addr → Hp → β1 → γ1 → Prop} {Q : γ → Hp → Prop}
theorem OkG.later {r : R β} (e : Ext K α H α1 H1) (x : OkG K mg W σ rep Q α H r) : OkG K mg W σ rep Q α1 H1 r := by
  cases r with
  | ok b h' => exact fun α' H' c e' => x α' H' c (e.trans e')
  | ex b h' => exact fun α' H' c d e' => x α' H' c d (e.trans e')
  | no => exact x
theorem OkG.mono {Q' : γ → Hp → Prop} {r : R β} (x : OkG K mg W σ rep Q α H r) (hq : ∀ c H', Q c H' → Q' c H') : OkG K mg W σ rep Q' α H r := by
  cases r with
  | ok b h' => exact fun α' H' c e r p => hq _ _ (x α' H' c e r p)
  | ex b h' => exact x
  | no => exact x
theorem OkG.bind {r : R β1} {k : β1 → Sto → R β} {Q1 : γ1 → Hp → Prop} (x : OkG K mg W σ rep Q α H (r.bind k))
    (f : ∀ α1 H1 b h1 c, Ext K α H α1 H1 → RelH K α1 h1 H1 → rep1 α1 H1 b c → OkG K mg W σ rep Q α1 H1 (k b h1) → Q1 c H1) : OkG K mg W σ rep1 Q1 α H r := by
  cases r with
  | ok b h' => exact fun α' H' c e r p => f α' H' b h' c e r p (OkG.later e x)
  | ex b h' => exact x
  | no => exact x
theorem OkS.later {Dn : Ends} {o : O} (e : Ext K α H α1 H1) (x : OkS K mg W Dn α H o) : OkS K mg W Dn α1 H1 o := by
  cases o with
  | nx ρ h => exact fun α' s' H' e' => x α' s' H' (e.trans e')
  | bk ρ h => exact fun α' s' H' e' => x α' s' H' (e.trans e')
  | ct ρ h => exact fun α' s' H' e' => x α' s' H' (e.trans e')
  | rt ρ h => exact fun α' s' H' e' => x α' s' H' (e.trans e')
  | ex ρ h1 h => exact fun α' s' H' c d e' => x α' s' H' c d (e.trans e')
  | no => exact x
/-- from an expression into a statement -/
def R.into {β : Type} (r : R β) (ρ : Sl) (k : β → Sto → O) : O := match r with
  | .ok b h => k b h
  | .ex e h => .ex e ρ h
  | .no => .no
theorem OkS.into {Dn : Ends} {r : R β1} {ρ : Sl} {k : β1 → Sto → O} {Q1 : γ1 → Hp → Prop} (x : OkS K mg W Dn α H (r.into ρ k)) (hE : RelE K α H ρ σ)
    (f : ∀ α1 H1 b h1 c, Ext K α H α1 H1 → RelH K α1 h1 H1 → rep1 α1 H1 b c → OkS K mg W Dn α1 H1 (k b h1) → Q1 c H1) : OkG K mg W σ rep1 Q1 α H r := by
  cases r with
  | ok b h' => exact fun α' H' c e r p => f α' H' b h' c e r p (OkS.later e x)
  | ex b h' => exact fun α' H' cls dd e r p => x α' σ H' cls dd e r (hE.ext e) p
  | no => exact x
end

/-- the readings -/
def tG {β γ : Type} (X : Cx) (W : WX) (rep : List Addr → Hp → β → γ → Prop) (m : MG β) : L2.St → Hp → (γ → Hp → Prop) → Prop := fun σ H Q =>
  ∃ α ρ h, RelH X.K α h H ∧ RelE X.K α H ρ σ ∧ OkG X.K X.mg W σ rep Q α H (m ρ h)
abbrev tD (X : Cx) (W : WX) (m : ME) : TE := tG X W (Rep X.K) m
abbrev tDs (X : Cx) (W : WX) (m : MA) : TA := tG X W (Reps X.K) m
abbrev tDt (X : Cx) (W : WX) (m : MT) : TT := tG X W (fun _ _ b c => b = c) m
def tSt (X : Cx) (W : WX) (m : MS) : TS := fun Dn σ H => ∃ α ρ h, RelH X.K α h H ∧ RelE X.K α H ρ σ ∧ OkS X.K X.mg W Dn α H (m ρ h)

theorem pe_imp {X : Cx} {e : Expr} {t t' : TE} (h : PE X e t) (f : ∀ σ H Q, t' σ H Q → t σ H Q) : PE X e t' := ⟨fun pins s σ H Q I q => h.run pins s σ H Q I (f σ H Q q)⟩
theorem pt_imp {X : Cx} {e : Expr} {t t' : TT} (h : PT X e t) (f : ∀ σ H Q, t' σ H Q → t σ H Q) : PT X e t' := ⟨fun pins s σ H Q I q => h.run pins s σ H Q I (f σ H Q q)⟩
theorem pw_imp {X : Cx} {e : Expr} {t t' : TT} (h : PW X e t) (f : ∀ σ H Q, t' σ H Q → t σ H Q) : PW X e t' := ⟨fun wh pins s σ H Q I q => h.run wh pins s σ H Q I (f σ H Q q)⟩
theorem pa_imp {X : Cx} {es : List Expr} {t t' : TA} (h : PA X es t) (f : ∀ σ H Q, t' σ H Q → t σ H Q) : PA X es t' := ⟨fun pos pins s σ H Q I q => h.run pos pins s σ H Q I (f σ H Q q)⟩
theorem ps_imp {X : Cx} {st : Stmt} {t t' : TS} (h : PS X st t) (f : ∀ Dn σ H, t' Dn σ H → t Dn σ H) : PS X st t' := ⟨fun pins s σ H Dn I q => h.run pins s σ H Dn I (f Dn σ H q)⟩
theorem pss_imp {X : Cx} {st : List Stmt} {t t' : TS} (h : PSs X st t) (f : ∀ Dn σ H, t' Dn σ H → t Dn σ H) : PSs X st t' := ⟨fun pins s σ H Dn I q => h.run pins s σ H Dn I (f Dn σ H q)⟩

section
variable {X : Cx} {W : WX} {β β1 γ γ1 : Type} {rep : List Addr → Hp → β → γ → Prop} {rep1 : List Addr → Hp → β1 → γ1 → Prop} {σ : L2.St} {H : Hp} {Q : γ → Hp → Prop}
/-- one step of a reading -/
theorem tG.step {m : MG β1} {k : β1 → MG β} {Q1 : γ1 → Hp → Prop} (x : tG X W rep (fun ρ h => (m ρ h).bind fun b h1 => k b ρ h1) σ H Q)
    (f : ∀ α1 ρ H1 b h1 c, RelH X.K α1 h1 H1 → RelE X.K α1 H1 ρ σ → rep1 α1 H1 b c → OkG X.K X.mg W σ rep Q α1 H1 (k b ρ h1) → Q1 c H1) : tG X W rep1 m σ H Q1 := by
  obtain ⟨α, ρ, h, R, E, o⟩ := x
  exact ⟨α, ρ, h, R, E, o.bind fun α1 H1 b h1 c e r p q => f α1 ρ H1 b h1 c r (E.ext e) p q⟩
end
/-- the same into a statement -/
theorem tSt.step {X : Cx} {W : WX} {β1 γ1 : Type} {rep1 : List Addr → Hp → β1 → γ1 → Prop} {σ : L2.St} {H : Hp} {Dn : Ends} {m : MG β1} {k : β1 → Sl → Sto → O} {Q1 : γ1 → Hp → Prop}
    (x : tSt X W (fun ρ h => (m ρ h).into ρ fun b h1 => k b ρ h1) Dn σ H)
    (f : ∀ α1 ρ H1 b h1 c, RelH X.K α1 h1 H1 → RelE X.K α1 H1 ρ σ → rep1 α1 H1 b c → OkS X.K X.mg W Dn α1 H1 (k b ρ h1) → Q1 c H1) : tG X W rep1 m σ H Q1 := by
  obtain ⟨α, ρ, h, R, E, o⟩ := x
  exact ⟨α, ρ, h, R, E, OkS.into o E fun α1 H1 b h1 c e r p q => f α1 ρ H1 b h1 c r (E.ext e) p q⟩
theorem RelE.ext' {K : PySem.W.Frag} {α α' : List Addr} {H H' : Hp} {ρ : Sl} {σ : L2.St} (r : RelE K α H ρ σ) (e : Ext K α H α' H') : RelE K α' H' ρ σ := r.ext e

/-! ### names, constants -/
def mVar (i : Nat) : ME := fun ρ h => match ρ[i]? with
  | some (some d) => .ok d h
  | _ => .no
def mC (d : D) : ME := fun _ h => .ok d h
section
variable {X : Cx} {W : WX} {pos : Pos}
theorem d_var (i : Nat) {x : Str} (hN : X.N[i]? = some x := by rfl) (hv : Vis X.env.scope x := by first | exact Or.inl rfl | exact Or.inr (Or.inl rfl) | exact Or.inr (Or.inr rfl)) (hd : (x == ("__debug__" : Str)) = false := by decide)
    (hcd : (x == ("__classdict__" : Str)) = false := by decide) : PE X (.Name x pos) (tD X W (mVar i)) := by
  refine pe_imp (pe_var hN hv hd hcd) fun σ H Q x => ?_
  obtain ⟨α, ρ, h, R, E, o⟩ := x
  unfold mVar at o
  split at o
  · rename_i d e
    obtain ⟨v, h1, h2⟩ := E.at' i d e
    exact ⟨v, h1, o α H v .refl R h2⟩
  · exact o.elim
theorem d_c {e : Expr} {d : D} {v : V} (he : PE X e (fun _ H Q => Q v H)) (r : ∀ α H, Rep X.K α H d v) : PE X e (tD X W (mC d)) := by
  refine pe_imp he fun σ H Q x => ?_
  obtain ⟨α, ρ, h, R, E, o⟩ := x
  exact o α H v .refl R (r α H)
theorem d_int {i j} : PE X (.Constant (.int i) j pos) (tD X W (mC (.int i))) := d_c pe_int fun _ _ => rfl
theorem d_str {i j} : PE X (.Constant (.str i) j pos) (tD X W (mC (.str i))) := d_c pe_str fun _ _ => rfl
theorem d_bl {i j} : PE X (.Constant (.bool i) j pos) (tD X W (mC (.bl i))) := d_c pe_bl fun _ _ => rfl
theorem d_non {j} : PE X (.Constant .none j pos) (tD X W (mC .non)) := d_c pe_non fun _ _ => rfl

/-! ### argument lists -/
def mNil : MA := fun _ h => .ok [] h
def mCons (m : ME) (k : MA) : MA := fun ρ h => (m ρ h).bind fun d h1 => (k ρ h1).bind fun ds h2 => .ok (d :: ds) h2
theorem d_nil : PA X [] (tDs X W mNil) := pa_imp pa_nil fun σ H Q x => by
  obtain ⟨α, ρ, h, R, E, o⟩ := x
  exact o α H [] .refl R rfl
theorem d_cons {e : Expr} {es : List Expr} {m : ME} {k : MA} (he : PE X e (tD X W m)) (hes : PA X es (tDs X W k)) (hs : starEach (e :: es) X.env = (false, eval e X.env) :: starEach es X.env := by rfl) : PA X (e :: es) (tDs X W (mCons m k)) := by
  refine pa_imp (pa_cons he hes hs) fun σ H Q x => ?_
  refine tG.step x fun α1 ρ H1 b h1 c R1 E1 r1 o1 => ?_
  refine ⟨α1, ρ, h1, R1, E1, OkG.bind o1 fun α2 H2 bs h2 cs e2 R2 r2 o2 => ?_⟩
  exact o2 α2 H2 (c :: cs) .refl R2 ⟨c, cs, rfl, Rep.ext e2 b r1, r2⟩

/-! ### displays -/
def mTup (k : MA) : ME := fun ρ h => (k ρ h).bind fun ds h1 => if ds.length ≤ 16777216 then .ok (.tup ds) h1 else .no
def mLst (k : MA) : ME := fun ρ h => (k ρ h).bind fun ds h1 => if ds.length ≤ 16777216 then .ok (.ref h1.length) (h1 ++ [.lst ds]) else .no
theorem d_tup {es : List Expr} {k : MA} {x1} (hes : PA X es (tDs X W k)) : PE X (.Tuple es x1 pos) (tD X W (mTup k)) := by
  refine pe_imp (pe_tup hes) fun σ H Q x => ?_
  refine tG.step x fun α1 ρ H1 ds h1 vs R1 E1 r1 o1 => ?_
  by_cases hz : ds.length ≤ 16777216
  · simp only [hz, if_true] at o1
    have hl := Reps.length r1
    refine ⟨by rw [sizeLine_eq]; omega, fun p hp => ?_⟩
    exact o1 α1 _ (.ref p) (Ext.newTup hp) (R1.newTup hp) ⟨p, vs, rfl, .inl (.inl upd_same), Reps.ext (Ext.newTup hp) ds r1⟩
  · simp only [hz, if_false] at o1
    exact o1.elim
theorem fresh_ref {K : PySem.W.Frag} {α : List Addr} {h : Sto} {H : Hp} {p : Addr} {H' : Hp} (R : RelH K α h H) : Rep K (α ++ [p]) H' (.ref h.length) (.ref p) := by
  refine ⟨p, ?_, rfl⟩
  rw [← R.len, List.getElem?_append_right (Nat.le_refl _)]
  simp
theorem d_lst {es : List Expr} {k : MA} (hes : PA X es (tDs X W k)) : PE X (.List es pos) (tD X W (mLst k)) := by
  refine pe_imp (pe_lst hes) fun σ H Q x => ?_
  refine tG.step x fun α1 ρ H1 ds h1 vs R1 E1 r1 o1 => ?_
  by_cases hz : ds.length ≤ 16777216
  · simp only [hz, if_true] at o1
    have hl := Reps.length r1
    refine ⟨by rw [sizeLine_eq]; omega, fun p hp => ?_⟩
    exact o1 (α1 ++ [p]) _ (.ref p) (Ext.new hp [p]) (R1.newLst hp r1) (fresh_ref R1)
  · simp only [hz, if_false] at o1
    exact o1.elim

/-! ### operators by values -/
def mBin (f : D → D → Sto → R D) (m k : ME) : ME := fun ρ h => (m ρ h).bind fun x h1 => (k ρ h1).bind fun y h2 => f x y h2
/-- f is what the rule r asks -/
def Op2 (X : Cx) (f : D → D → Sto → R D) (r : R2) : Prop := ∀ (W : WX) (σ : L2.St) (Q : VK) α h H x y u v, RelH X.K α h H → Rep X.K α H x u → Rep X.K α H y v → OkG X.K X.mg W σ (Rep X.K) Q α H (f x y h) → r u v H Q
theorem d_op {op : Operator} {r : R2} {f : D → D → Sto → R D} {a b : Expr} {m k : ME} (ho : OpR X (binaryOp op) r) (hf : Op2 X f r) (ha : PE X a (tD X W m)) (hb : PE X b (tD X W k)) : PE X (.BinOp a op b pos) (tD X W (mBin f m k)) := by
  refine pe_imp (pe_op ho ha hb) fun σ H Q x => ?_
  refine tG.step x fun α1 ρ H1 d1 h1 v1 R1 E1 r1 o1 => ?_
  refine ⟨α1, ρ, h1, R1, E1, OkG.bind o1 fun α2 H2 d2 h2 v2 e2 R2 r2 o2 => ?_⟩
  exact hf W σ Q α2 h2 H2 d1 d2 v1 v2 R2 (Rep.ext e2 d1 r1) r2 o2
theorem d_cmp {op : CmpOp} {r : R2} {f : D → D → Sto → R D} {a b : Expr} {m k : ME} (ho : OpR X (compareOp op) r) (hf : Op2 X f r) (ha : PE X a (tD X W m)) (hb : PE X b (tD X W k)) (hm : behindInMarks op b = false) : PE X (.Compare a [op] [b] pos) (tD X W (mBin f m k)) := by
  refine pe_imp (pe_cmpR ho ha hb hm) fun σ H Q x => ?_
  refine tG.step x fun α1 ρ H1 d1 h1 v1 R1 E1 r1 o1 => ?_
  refine ⟨α1, ρ, h1, R1, E1, OkG.bind o1 fun α2 H2 d2 h2 v2 e2 R2 r2 o2 => ?_⟩
  exact hf W σ Q α2 h2 H2 d1 d2 v1 v2 R2 (Rep.ext e2 d1 r1) r2 o2
/-- a bool's value as a test -/
def boolD : D → Sto → R Bool
  | .bl b, h => .ok b h
  | _, _ => .no
def mTB (m : ME) : MT := fun ρ h => (m ρ h).bind boolD
theorem t_cmp {op : CmpOp} {r : R2} {f : D → D → Sto → R D} {a b : Expr} {m k : ME} (ho : OpR X (compareOp op) r) (hf : Op2 X f r) (ha : PE X a (tD X W m)) (hb : PE X b (tD X W k)) (hm : behindInMarks op b = false) : PT X (.Compare a [op] [b] pos) (tDt X W (mTB (mBin f m k))) := by
  refine pt_imp (pt_cmpR ho ha hb hm) fun σ H Q x => ?_
  obtain ⟨α, ρ, h, R, E, o⟩ := x
  unfold mTB mBin at o
  have o' : OkG X.K X.mg W σ (Rep X.K) (fun x H' => ∃ k, x = .bl k ∧ Q k H') α H ((m ρ h).bind fun x h1 => (k ρ h1).bind fun y h2 => f x y h2) := by
    refine OkG.bind o fun α1 H1 b h1 c e R1 r1 o1 => ?_
    cases b with
    | bl b =>
      cases (show c = .bl b from r1)
      exact ⟨b, rfl, o1 α1 H1 b .refl R1 rfl⟩
    | _ => exact o1.elim
  refine ⟨α, ρ, h, R, E, OkG.bind o' fun α1 H1 d1 h1 v1 e1 R1 r1 o1 => ?_⟩
  refine ⟨α1, ρ, h1, R1, E.ext e1, OkG.bind o1 fun α2 H2 d2 h2 v2 e2 R2 r2 o2 => ?_⟩
  exact hf W σ _ α2 h2 H2 d1 d2 v1 v2 R2 (Rep.ext e2 d1 r1) r2 o2
end
end Ml
/-! The mill, part 3: operators and comparisons by values. -/
namespace Ml
open PySem PySem.Spec L2

section
variable {X : Cx}
/-- a list of the store as it stands -/
def lstAt (h : Sto) (n : Nat) : Option (List D) := match h[n]? with
  | some (.lst xs) => some xs
  | _ => none
def anyAt (h : Sto) (n : Nat) : Option (List D) := match h[n]? with
  | some (.lst xs) => some xs
  | some (.ro xs) => some xs
  | none => none
theorem lstAt_of {h : Sto} {n : Nat} {xs : List D} (e : lstAt h n = some xs) : h[n]? = some (Cl.lst xs) := by
  unfold lstAt at e
  split at e
  · cases e; assumption
  · cases e
theorem RelH.lst {K : PySem.W.Frag} {α : List Addr} {h : Sto} {H : Hp} {n : Nat} {xs : List D} {v : V} (R : RelH K α h H) (e : lstAt h n = some xs) (r : Rep K α H (.ref n) v) : ∃ a vs, α[n]? = some a ∧ v = .ref a ∧ H a = some (.lst vs) ∧ Reps K α H xs vs := by
  obtain ⟨a, ha, rfl⟩ := r
  obtain ⟨a', ha', vs, h1, h2⟩ := R.cell n _ (lstAt_of e)
  rw [ha] at ha'; cases ha'
  exact ⟨a, vs, ha, rfl, h1, h2⟩
theorem RelH.any {K : PySem.W.Frag} {α : List Addr} {h : Sto} {H : Hp} {n : Nat} {xs : List D} {v : V} (R : RelH K α h H) (e : anyAt h n = some xs) (r : Rep K α H (.ref n) v) : ∃ a vs, α[n]? = some a ∧ v = .ref a ∧ SqL K H a vs ∧ Reps K α H xs vs := by
  obtain ⟨a, ha, rfl⟩ := r
  unfold anyAt at e
  split at e
  · rename_i ys q
    cases e
    obtain ⟨a', ha', vs, h1, h2⟩ := R.cell n _ q
    rw [ha] at ha'; cases ha'
    exact ⟨a, vs, ha, rfl, SqL.of h1, h2⟩
  · rename_i ys q
    cases e
    obtain ⟨a', ha', vs, h1, h2⟩ := R.cell n _ q
    rw [ha] at ha'; cases ha'
    exact ⟨a, vs, ha, rfl, h1.sq, h2⟩
  · cases e

/-! ### + - * // % ** -/
def addD : D → D → Sto → R D
  | .int i, .int j, h => .ok (.int (i + j)) h
  | .str i, .str j, h => if i.length + j.length ≤ 16777216 then .ok (.str (i ++ j)) h else .no
  | .tup xs, .tup ys, h => if xs.length + ys.length ≤ 16777216 then .ok (.tup (xs ++ ys)) h else .no
  | .ref n, .ref k, h => match lstAt h n, lstAt h k with
    | some xs, some ys => if xs.length + ys.length ≤ 16777216 then .ok (.ref h.length) (h ++ [.lst (xs ++ ys)]) else .no
    | _, _ => .no
  | _, _, _ => .no
abbrev rAdd (K : PySem.W.Frag) : R2 := fun x y H Q => (∃ i j, x = .int i ∧ y = .int j ∧ Q (.int (i + j)) H) ∨ ((∃ i j, x = .str i ∧ y = .str j ∧ i.length + j.length ≤ sizeLine ∧ Q (.str (i ++ j)) H) ∨ (rCatA K x y H Q ∨ rCat x y H Q))
theorem op_addA : OpR X (binaryOp .Add) (rAdd X.K) := OpR.or op_add (OpR.or op_add_str (OpR.or op_catA op_cat))
theorem addD_ok : Op2 X addD (rAdd X.K) := by
  intro W σ Q α h H x y u v R r1 r2 o
  cases x with
  | int i =>
    cases y with
    | int j =>
      cases (show u = .int i from r1)
      cases (show v = .int j from r2)
      exact .inl ⟨i, j, rfl, rfl, o α H _ .refl R rfl⟩
    | _ => exact o.elim
  | str i =>
    cases y with
    | str j =>
      cases (show u = .str i from r1)
      cases (show v = .str j from r2)
      have o : OkG X.K X.mg W σ (Rep X.K) Q α H (if i.length + j.length ≤ 16777216 then .ok (.str (i ++ j)) h else .no) := o
      by_cases hz : i.length + j.length ≤ 16777216
      · rw [if_pos hz] at o
        exact .inr (.inl ⟨i, j, rfl, rfl, by rw [sizeLine_eq]; exact hz, o α H _ .refl R rfl⟩)
      · rw [if_neg hz] at o; exact o.elim
    | _ => exact o.elim
  | tup xs =>
    cases y with
    | tup ys =>
      have o : OkG X.K X.mg W σ (Rep X.K) Q α H (if xs.length + ys.length ≤ 16777216 then .ok (.tup (xs ++ ys)) h else .no) := o
      by_cases hz : xs.length + ys.length ≤ 16777216
      · rw [if_pos hz] at o
        obtain ⟨a, vs, rfl, ha, ra⟩ := r1
        obtain ⟨b, us, rfl, hb, rb⟩ := r2
        have l1 := Reps.length ra
        have l2 := Reps.length rb
        refine .inr (.inr (.inl ⟨a, b, vs, us, rfl, rfl, ha, hb, by rw [sizeLine_eq]; omega, fun e => ?_, fun e1 e2 => ?_, fun e1 e2 p hp => ?_⟩))
        · subst e
          have : xs = [] := by cases xs with | nil => rfl | cons _ _ => simp at l1
          subst this
          exact o α H _ .refl R ⟨b, us, rfl, hb, by simpa using rb⟩
        · subst e2
          have : ys = [] := by cases ys with | nil => rfl | cons _ _ => simp at l2
          subst this
          exact o α H _ .refl R ⟨a, vs, rfl, ha, by simpa using ra⟩
        · exact o α _ _ (Ext.newTup hp) (R.newTup hp) ⟨p, vs ++ us, rfl, .inl (.inl upd_same), Reps.append (Reps.ext (Ext.newTup hp) _ ra) (Reps.ext (Ext.newTup hp) _ rb)⟩
      · rw [if_neg hz] at o; exact o.elim
    | _ => exact o.elim
  | ref n =>
    cases y with
    | ref k =>
      have o : OkG X.K X.mg W σ (Rep X.K) Q α H (match lstAt h n, lstAt h k with
        | some xs, some ys => if xs.length + ys.length ≤ 16777216 then .ok (.ref h.length) (h ++ [.lst (xs ++ ys)]) else .no
        | _, _ => .no) := o
      cases e1 : lstAt h n with
      | none => rw [e1] at o; exact o.elim
      | some xs =>
        cases e2 : lstAt h k with
        | none => rw [e1, e2] at o; exact o.elim
        | some ys =>
          rw [e1, e2] at o
          by_cases hz : xs.length + ys.length ≤ 16777216
          · simp only [hz, if_true] at o
            obtain ⟨a, vs, _, rfl, ha, ra⟩ := R.lst e1 r1
            obtain ⟨b, us, _, rfl, hb, rb⟩ := R.lst e2 r2
            have l1 := Reps.length ra
            have l2 := Reps.length rb
            refine .inr (.inr (.inr ⟨a, b, vs, us, rfl, rfl, ha, hb, by rw [sizeLine_eq]; omega, fun p hp => ?_⟩))
            exact o (α ++ [p]) _ _ (Ext.new hp [p]) (R.newLst hp (Reps.append ra rb)) (fresh_ref R)
          · simp only [hz, if_false] at o
            exact o.elim
    | _ => exact o.elim
  | _ => cases y <;> exact o.elim
def int2 (f : Int → Int → Option Int) : D → D → Sto → R D
  | .int i, .int j, h => match f i j with
    | some k => .ok (.int k) h
    | none => .no
  | _, _, _ => .no
theorem int2_ok {f : Int → Int → Option Int} {r : R2} (hr : ∀ i j k (H : Hp) (Q : VK), f i j = some k → Q (.int k) H → r (.int i) (.int j) H Q) : Op2 X (int2 f) r := by
  intro W σ Q α h H x y u v R r1 r2 o
  cases x with
  | int i =>
    cases y with
    | int j =>
      cases (show u = .int i from r1)
      cases (show v = .int j from r2)
      have o : OkG X.K X.mg W σ (Rep X.K) Q α H (match f i j with | some k => .ok (.int k) h | none => .no) := o
      cases e : f i j with
      | none => rw [e] at o; exact o.elim
      | some k => rw [e] at o; exact hr i j k H Q e (o α H _ .refl R rfl)
    | _ => exact o.elim
  | _ => cases y <;> exact o.elim
def subF (i j : Int) : Option Int := some (i - j)
def fdivF (i j : Int) : Option Int := if 0 < j ∧ j < 1073741824 then some (i / j) else none
def modF (i j : Int) : Option Int := if 0 < j then some (i % j) else none
def powF (i j : Int) : Option Int := if 0 ≤ j ∧ j ≤ 1000000 ∧ i.natAbs < 2 ^ 64 then some (i ^ j.toNat) else none
theorem sub_ok : Op2 X (int2 subF) (rI0 fun i j => .int (i - j)) := int2_ok fun i j k H Q e q => by cases e; exact ⟨i, j, rfl, rfl, q⟩
theorem fdiv_ok : Op2 X (int2 fdivF) (rI CDiv fun i j => .int (i / j)) := int2_ok fun i j k H Q e q => by
  unfold fdivF at e
  split at e
  · rename_i c; cases e; exact ⟨i, j, rfl, rfl, c, q⟩
  · cases e
theorem mod_ok : Op2 X (int2 modF) (rI (fun _ j => 0 < j) fun i j => .int (i % j)) := int2_ok fun i j k H Q e q => by
  unfold modF at e
  split at e
  · rename_i c; cases e; exact ⟨i, j, rfl, rfl, c, q⟩
  · cases e
theorem pow_ok : Op2 X (int2 powF) (rI CPow fun i j => .int (i ^ j.toNat)) := int2_ok fun i j k H Q e q => by
  unfold powF at e
  split at e
  · rename_i c; cases e; exact ⟨i, j, rfl, rfl, c, q⟩
  · cases e
section
open PyProof.Rows
theorem tuple_mulW1 (l : Addr) (items : Array Value) (n : Nat) (dd : Option Addr) (sl : Array (Option Value)) (u : Tok) (c0 : (decide ((1 : Int) < -(2 ^ 63)) || decide ((1 : Int) ≥ 2 ^ 63)) = false) (c1 : (items.isEmpty || (1 : Int) == 1) = true) :
    Meets (Builtin.«tuple.__mul__» ⟨[.ref l, .int 1 u], []⟩) (fun _ R s => s.heap.get? l = some { cls := .type "tuple", dict := dd, data := .seq items n, slots := sl } ∧
      R (.ok (.ret (Value.ref l))) s) :=
  .of_wp fun prog w A R s h => by
    obtain ⟨hp, g, d, tk, os⟩ := s
    obtain ⟨hl, h⟩ := h
    have f1 := AutoSeq1.idx_int
    wp_walk using wpAny_loadPart' hl
    repeat (first
      | (refine wpAny_ite_false (decide_eq_false (by rw [c0]; exact Bool.false_ne_true)) ?_; wp_walk using wpAny_loadPart' hl)
      | (refine wpAny_ite_true (decide_eq_true (by rw [c1])) ?_; wp_walk using wpAny_loadPart' hl))
    exact ⟨_, rfl, h⟩
def rRepT1 (K : PySem.W.Frag) : R2 := fun x y H Q => ∃ l xs, x = .ref l ∧ y = .int 1 ∧ SqT K H l xs ∧ Q (.ref l) H
theorem op_repT1 : OpR X (binaryOp .Mult) (rRepT1 X.K) := by
  intro pins s σ H x y v u Q I rx ry h
  obtain ⟨l, xs, rfl, rfl, hT, q⟩ := h
  cases rx
  obtain ⟨t, rfl⟩ := ry
  obtain ⟨its, r, ⟨⟨cls, dd, data, sl⟩, ho, hc, n, hd⟩, hs⟩ := I.tuple hT
  simp only at hc hd
  subst hc hd
  have c0 : (decide ((1 : Int) < -(2 ^ 63)) || decide ((1 : Int) ≥ 2 ^ 63)) = false := by decide
  have c1 : (its.toArray.isEmpty || (1 : Int) == 1) = true := by
    rw [show ((1 : Int) == 1) = true from rfl, Bool.or_true]
  refine wpAny_binaryOp_repeat_ref (T := "tuple") (U := "int") (by decide) ⟨_, ho, rfl⟩ (fun s' => typeIs_int s' 1 t) noFill_tuple_mul F.fills_int_mul F.slot_int_rmul repeat_tuple F.slot_int_index.lookup
    (call_meets F.slot_int_rmul (typeIs_int s 1 t) F.entry_int_rmul (F.args_int_rmul_2 _ _) (int_rmul_tuple 1 t l its.toArray n dd sl)
      ⟨ho, rfl, ⟨_, ho, rfl⟩, call_meets F.slot_tuple_mul ⟨_, ho, rfl⟩ F.entry_tuple_mul (F.args_tuple_mul_2 _ _) (tuple_mulW1 l its.toArray n dd sl t c0 c1) ⟨ho, ?_⟩⟩)
  exact ⟨.ref l, _, I, rfl, q⟩
end
/-- * : of ints, one of them below 2 ^ 64; of a list and an int -/
def mulD : D → D → Sto → R D
  | .int i, .int j, h => if (-(2 ^ 64) < i ∧ i < 2 ^ 64) ∨ (-(2 ^ 64) < j ∧ j < 2 ^ 64) then .ok (.int (i * j)) h else .no
  | .ref n, .int k, h => match lstAt h n with
    | some xs => if -(2 ^ 63) ≤ k ∧ k < 2 ^ 63 ∧ xs.length * k.toNat ≤ 16777216 then .ok (.ref h.length) (h ++ [.lst (List.replicate k.toNat xs).flatten]) else .no
    | none => .no
  | .tup xs, .int k, h => if k = 1 then .ok (.tup xs) h else if xs.isEmpty = false ∧ 2 ≤ k ∧ k ≤ 1000 ∧ xs.length ≤ 1000 then .ok (.tup (List.replicate k.toNat xs).flatten) h else .no
  | _, _, _ => .no
abbrev rMulA (K : PySem.W.Frag) : R2 := fun x y H Q => rI CMul (fun i j => .int (i * j)) x y H Q ∨ (rRep x y H Q ∨ (rRepT K x y H Q ∨ rRepT1 K x y H Q))
theorem op_mulA : OpR X (binaryOp .Mult) (rMulA X.K) := OpR.or op_mul (OpR.or op_rep (OpR.or op_repT op_repT1))
theorem Reps.rep {K : PySem.W.Frag} {α : List Addr} {H : Hp} {xs : List D} {vs : List V} (r : Reps K α H xs vs) : ∀ n : Nat, Reps K α H (List.replicate n xs).flatten (List.replicate n vs).flatten
  | 0 => rfl
  | n + 1 => by
    rw [List.replicate_succ, List.replicate_succ, List.flatten_cons, List.flatten_cons]
    exact Reps.append r (Reps.rep r n)
theorem mulD_ok : Op2 X mulD (rMulA X.K) := by
  intro W σ Q α h H x y u v R r1 r2 o
  cases x with
  | int i =>
    cases y with
    | int j =>
      cases (show u = .int i from r1)
      cases (show v = .int j from r2)
      have o : OkG X.K X.mg W σ (Rep X.K) Q α H (if (-(2 ^ 64) < i ∧ i < 2 ^ 64) ∨ (-(2 ^ 64) < j ∧ j < 2 ^ 64) then .ok (.int (i * j)) h else .no) := o
      split at o
      · rename_i c; exact .inl ⟨i, j, rfl, rfl, c, o α H _ .refl R rfl⟩
      · exact o.elim
    | _ => exact o.elim
  | ref n =>
    cases y with
    | int k =>
      cases (show v = .int k from r2)
      have o : OkG X.K X.mg W σ (Rep X.K) Q α H (match lstAt h n with
        | some xs => if -(2 ^ 63) ≤ k ∧ k < 2 ^ 63 ∧ xs.length * k.toNat ≤ 16777216 then .ok (.ref h.length) (h ++ [.lst (List.replicate k.toNat xs).flatten]) else .no
        | none => .no) := o
      cases e1 : lstAt h n with
      | none => rw [e1] at o; exact o.elim
      | some xs =>
        rw [e1] at o
        dsimp only at o
        split at o
        · rename_i c
          obtain ⟨a, vs, _, rfl, ha, ra⟩ := R.lst e1 r1
          have l1 := Reps.length ra
          refine .inr (.inl ⟨a, k, vs, rfl, rfl, ha, c.1, c.2.1, by rw [sizeLine_eq, l1]; exact c.2.2, fun p hp => ?_⟩)
          exact o (α ++ [p]) _ _ (Ext.new hp [p]) (R.newLst hp (Reps.rep ra _)) (fresh_ref R)
        · exact o.elim
    | _ => exact o.elim
  | tup xs =>
    cases y with
    | int k =>
      cases (show v = .int k from r2)
      have o : OkG X.K X.mg W σ (Rep X.K) Q α H (if k = 1 then .ok (.tup xs) h else if xs.isEmpty = false ∧ 2 ≤ k ∧ k ≤ 1000 ∧ xs.length ≤ 1000 then .ok (.tup (List.replicate k.toNat xs).flatten) h else .no) := o
      split at o
      · rename_i c
        subst c
        obtain ⟨a, vs, rfl, ha, ra⟩ := r1
        exact .inr (.inr (.inr ⟨a, vs, rfl, rfl, ha, o α H _ .refl R ⟨a, vs, rfl, ha, ra⟩⟩))
      split at o
      · rename_i c
        obtain ⟨a, vs, rfl, ha, ra⟩ := r1
        have l1 := Reps.length ra
        refine .inr (.inr (.inl ⟨a, k, vs, rfl, rfl, ha, fun z => ?_, c.2.1, c.2.2.1, by rw [l1]; exact c.2.2.2, fun p hp => ?_⟩))
        · subst z
          cases xs with
          | nil => exact absurd c.1 (by simp)
          | cons _ _ => simp at l1
        · exact o α _ _ (Ext.newTup hp) (R.newTup hp) ⟨p, _, rfl, .inl (.inl upd_same), Reps.ext (Ext.newTup hp) _ (Reps.rep ra _)⟩
      · exact o.elim
    | _ => exact o.elim
  | _ => cases y <;> exact o.elim

/-! ### < <= > >= of ints -/
def ordD (p : Int → Int → Bool) : D → D → Sto → R D
  | .int i, .int j, h => .ok (.bl (p i j)) h
  | _, _, _ => .no
theorem ord_ok {p : Int → Int → Bool} : Op2 X (ordD p) (rI0 fun i j => .bl (p i j)) := by
  intro W σ Q α h H x y u v R r1 r2 o
  cases x with
  | int i =>
    cases y with
    | int j =>
      cases (show u = .int i from r1)
      cases (show v = .int j from r2)
      exact ⟨i, j, rfl, rfl, o α H _ .refl R rfl⟩
    | _ => exact o.elim
  | _ => cases y <;> exact o.elim
abbrev ltD := ordD fun i j => decide (i < j)
abbrev leD := ordD fun i j => decide (i ≤ j)
abbrev gtD := ordD fun i j => decide (j < i)
abbrev geD := ordD fun i j => decide (j ≤ i)

/-! ### is None -/
def isN : D → Bool
  | .non => true
  | _ => false
def isND : D → D → Sto → R D
  | x, .non, h => .ok (.bl (isN x)) h
  | _, _, _ => .no
def notND : D → D → Sto → R D
  | x, .non, h => .ok (.bl (!isN x)) h
  | _, _, _ => .no
theorem isN_rep {K : PySem.W.Frag} {α : List Addr} {H : Hp} : ∀ {x : D} {u : V}, Rep K α H x u → decide (u = V.non) = isN x
  | .non, _, h => by cases (show _ = V.non from h); rfl
  | .bl b, _, h => by cases (show _ = V.bl b from h); rfl
  | .int b, _, h => by cases (show _ = V.int b from h); rfl
  | .str b, _, h => by cases (show _ = V.str b from h); rfl
  | .ty b, _, h => by cases (show _ = V.ty b.name from h); rfl
  | .ref b, _, ⟨_, _, h⟩ => by cases h; rfl
  | .tup b, _, ⟨_, _, h, _⟩ => by cases h; rfl
theorem isN_ok : Op2 X isND (fun x y H Q => y = .non ∧ Q (.bl (decide (x = .non))) H) := by
  intro W σ Q α h H x y u v R r1 r2 o
  cases y with
  | non =>
    cases (show v = .non from r2)
    refine ⟨rfl, ?_⟩
    rw [isN_rep r1]
    exact o α H _ .refl R rfl
  | _ => cases x <;> exact o.elim
theorem notN_ok : Op2 X notND (fun x y H Q => y = .non ∧ Q (.bl (!decide (x = .non))) H) := by
  intro W σ Q α h H x y u v R r1 r2 o
  cases y with
  | non =>
    cases (show v = .non from r2)
    refine ⟨rfl, ?_⟩
    rw [isN_rep r1]
    exact o α H _ .refl R rfl
  | _ => cases x <;> exact o.elim

/-! ### == of data -/
def optAll {β : Type} : List (Option β) → Option (List β)
  | [] => some []
  | none :: _ => none
  | some x :: r => match optAll r with
    | some xs => some (x :: xs)
    | none => none
def toPy : Nat → Sto → D → Option PyData
  | 0, _, _ => none
  | n + 1, h, d => match d with
    | .non => some .none
    | .bl b => some (.bool b)
    | .int i => some (.int i)
    | .str s => some (.str s)
    | .ty _ => none
    | .ref k => match anyAt h k with
      | some xs => match optAll (xs.map (toPy n h)) with
        | some ys => some (.list ys)
        | none => none
      | none => none
    | .tup xs => match optAll (xs.map (toPy n h)) with
      | some ys => some (.tuple ys)
      | none => none
theorem dpAll_of {K : PySem.W.Frag} {α : List Addr} {H : Hp} {f : D → Option PyData} (hf : ∀ d v p, f d = some p → Rep K α H d v → Dp K H v p) : ∀ {xs : List D} {vs : List V} {ps : List PyData}, optAll (xs.map f) = some ps → Reps K α H xs vs → DpAll K H vs ps
  | [], _, _, e, r => by cases r; cases e; exact .nil
  | x :: xs, _, ps, e, ⟨v, vs, q, h, t⟩ => by
    subst q
    rw [List.map_cons] at e
    cases e1 : f x with
    | none => rw [e1] at e; cases e
    | some p =>
      rw [e1] at e
      unfold optAll at e
      cases e2 : optAll (xs.map f) with
      | none => rw [e2] at e; cases e
      | some ys =>
        rw [e2] at e
        cases e
        exact .cons (hf x v p e1 h) (dpAll_of hf e2 t)
theorem toPy_dp {K : PySem.W.Frag} {α : List Addr} {h : Sto} {H : Hp} (R : RelH K α h H) : ∀ (n : Nat) (d : D) (v : V) (p : PyData), toPy n h d = some p → Rep K α H d v → Dp K H v p
  | 0, _, _, _, e, _ => by cases e
  | n + 1, d, v, p, e, r => by
    unfold toPy at e
    cases d with
    | non => cases e; cases (show v = .non from r); exact .non
    | bl b => cases e; cases (show v = .bl b from r); exact .bl b
    | int b => cases e; cases (show v = .int b from r); exact .int b
    | str b => cases e; cases (show v = .str b from r); exact .str b
    | ty b => cases e
    | ref k =>
      dsimp only at e
      cases e1 : anyAt h k with
      | none => rw [e1] at e; cases e
      | some xs =>
        rw [e1] at e
        dsimp only at e
        cases e2 : optAll (xs.map (toPy n h)) with
        | none => rw [e2] at e; cases e
        | some ys =>
          rw [e2] at e
          cases e
          obtain ⟨a, vs, _, rfl, hs, rs⟩ := R.any e1 r
          exact .lst hs (dpAll_of (fun d v p => toPy_dp R n d v p) e2 rs)
    | tup xs =>
      dsimp only at e
      cases e2 : optAll (xs.map (toPy n h)) with
      | none => rw [e2] at e; cases e
      | some ys =>
        rw [e2] at e
        cases e
        obtain ⟨a, vs, rfl, hs, rs⟩ := r
        exact .tup hs (dpAll_of (fun d v p => toPy_dp R n d v p) e2 rs)
/-- x == y -/
def eqO (h : Sto) (x y : D) : Option Bool := match toPy 70 h x, toPy 70 h y with
  | some a, some b => if SeqAt.shaped a && SeqAt.shaped b then some (PyData.eqv a b) else none
  | _, _ => none
def eqD (x y : D) (h : Sto) : R D := match eqO h x y with
  | some b => .ok (.bl b) h
  | none => .no
def neD (x y : D) (h : Sto) : R D := match eqO h x y with
  | some b => .ok (.bl (!b)) h
  | none => .no
theorem eqO_dp {K : PySem.W.Frag} {α : List Addr} {h : Sto} {H : Hp} (R : RelH K α h H) {x y : D} {u v : V} {b : Bool} (e : eqO h x y = some b) (r1 : Rep K α H x u) (r2 : Rep K α H y v) : ∃ d e, Dp K H u d ∧ Dp K H v e ∧ SeqAt.shaped d = true ∧ SeqAt.shaped e = true ∧ PyData.eqv d e = b := by
  unfold eqO at e
  cases e1 : toPy 70 h x with
  | none => rw [e1] at e; cases e
  | some p =>
    cases e2 : toPy 70 h y with
    | none => rw [e1, e2] at e; cases e
    | some q =>
      rw [e1, e2] at e
      dsimp only at e
      split at e
      · rename_i c
        rw [Bool.and_eq_true] at c
        cases e
        exact ⟨p, q, toPy_dp R _ _ _ _ e1 r1, toPy_dp R _ _ _ _ e2 r2, c.1, c.2, rfl⟩
      · cases e
theorem eq_ok : Op2 X eqD (rEqD X.K) := by
  intro W σ Q α h H x y u v R r1 r2 o
  unfold eqD at o
  cases e : eqO h x y with
  | none => rw [e] at o; exact o.elim
  | some b =>
    rw [e] at o
    obtain ⟨p, q, h1, h2, h3, h4, h5⟩ := eqO_dp R e r1 r2
    exact ⟨p, q, h1, h2, h3, h4, by rw [h5]; exact o α H _ .refl R rfl⟩
theorem ne_ok : Op2 X neD (rNeD X.K) := by
  intro W σ Q α h H x y u v R r1 r2 o
  unfold neD at o
  cases e : eqO h x y with
  | none => rw [e] at o; exact o.elim
  | some b =>
    rw [e] at o
    obtain ⟨p, q, h1, h2, h3, h4, h5⟩ := eqO_dp R e r1 r2
    exact ⟨p, q, h1, h2, h3, h4, by rw [h5]; exact o α H _ .refl R rfl⟩
end
end Ml
/-! The mill, part 4: in, chains, truth, and/or/not, a if t else b, subscripts, slices. -/
namespace Ml
open PySem PySem.Spec L2

section
variable {X : Cx} {W : WX} {pos : Pos}
/-! ### in -/
def seqPy (h : Sto) (y : D) : Option (List PyData) := match toPy 70 h y with
  | some (.list ds) => if SeqAt.shaped (.list ds) then some ds else none
  | some (.tuple ds) => if SeqAt.shaped (.tuple ds) then some ds else none
  | _ => none
def inO (h : Sto) (x y : D) : Option Bool := match toPy 70 h x, seqPy h y with
  | some d, some ds => if SeqAt.shaped d then some (ds.any fun z => PyData.eqv z d) else none
  | _, _ => none
def inD (x y : D) (h : Sto) : R D := match inO h x y with
  | some b => .ok (.bl b) h
  | none => .no
def notInD (x y : D) (h : Sto) : R D := match inO h x y with
  | some b => .ok (.bl (!b)) h
  | none => .no
def rInA (K : PySem.W.Frag) (neg : Bool) : R2 := fun x y H Q => ∃ d ds, Dp K H x d ∧ (Dp K H y (.list ds) ∧ SeqAt.shaped (.list ds) = true ∨ Dp K H y (.tuple ds) ∧ SeqAt.shaped (.tuple ds) = true) ∧ SeqAt.shaped d = true ∧
  Q (.bl (if neg then !(ds.any fun z => PyData.eqv z d) else ds.any fun z => PyData.eqv z d)) H
theorem op_inA (hu : X.A.units + 65 < cLine) : OpR X (compareOp .In) (rInA X.K false) := by
  intro pins s σ H x y v u Q I rx ry h
  obtain ⟨d, ds, hd, he, sd, q⟩ := h
  obtain ⟨as, r1⟩ := Dp.reads I d x v hd rx
  rcases he with ⟨he, se⟩ | ⟨he, se⟩
  · obtain ⟨bs, r2⟩ := Dp.reads I (.list ds) y u he ry
    exact SeqAt.in_list_reads r2 r1 (SeqAt.canLay_of_shaped se) (SeqAt.canLay_of_shaped sd) (PyProof.Rows.room_in_shaped sd hu) ⟨.bl _, H, I, rfl, q⟩
  · obtain ⟨bs, r2⟩ := Dp.reads I (.tuple ds) y u he ry
    exact SeqAt.in_tuple_reads r2 r1 (SeqAt.canLay_of_shaped se) (SeqAt.canLay_of_shaped sd) (PyProof.Rows.room_in_shaped sd hu) ⟨.bl _, H, I, rfl, q⟩
theorem op_notInA (hu : X.A.units + 65 < cLine) : OpR X (compareOp .NotIn) (rInA X.K true) := by
  intro pins s σ H x y v u Q I rx ry h
  obtain ⟨d, ds, hd, he, sd, q⟩ := h
  obtain ⟨as, r1⟩ := Dp.reads I d x v hd rx
  rcases he with ⟨he, se⟩ | ⟨he, se⟩
  · obtain ⟨bs, r2⟩ := Dp.reads I (.list ds) y u he ry
    exact SeqAt.notIn_list_reads r2 r1 (SeqAt.canLay_of_shaped se) (SeqAt.canLay_of_shaped sd) (PyProof.Rows.room_in_shaped sd hu) ⟨.bl _, H, I, rfl, q⟩
  · obtain ⟨bs, r2⟩ := Dp.reads I (.tuple ds) y u he ry
    exact SeqAt.notIn_tuple_reads r2 r1 (SeqAt.canLay_of_shaped se) (SeqAt.canLay_of_shaped sd) (PyProof.Rows.room_in_shaped sd hu) ⟨.bl _, H, I, rfl, q⟩
theorem inO_dp {K : PySem.W.Frag} {α : List Addr} {h : Sto} {H : Hp} (R : RelH K α h H) {x y : D} {u v : V} {b : Bool} (e : inO h x y = some b) (r1 : Rep K α H x u) (r2 : Rep K α H y v) :
    ∃ d ds, Dp K H u d ∧ (Dp K H v (.list ds) ∧ SeqAt.shaped (.list ds) = true ∨ Dp K H v (.tuple ds) ∧ SeqAt.shaped (.tuple ds) = true) ∧ SeqAt.shaped d = true ∧ (ds.any fun z => PyData.eqv z d) = b := by
  unfold inO at e
  cases e1 : toPy 70 h x with
  | none => rw [e1] at e; cases e
  | some d =>
    rw [e1] at e
    cases e2 : seqPy h y with
    | none => rw [e2] at e; cases e
    | some ds =>
      rw [e2] at e
      dsimp only at e
      split at e
      · rename_i c
        cases e
        refine ⟨d, ds, toPy_dp R _ _ _ _ e1 r1, ?_, c, rfl⟩
        unfold seqPy at e2
        split at e2
        · rename_i ds' e3
          split at e2
          · rename_i c2; cases e2; exact .inl ⟨toPy_dp R _ _ _ _ e3 r2, c2⟩
          · cases e2
        · rename_i ds' e3
          split at e2
          · rename_i c2; cases e2; exact .inr ⟨toPy_dp R _ _ _ _ e3 r2, c2⟩
          · cases e2
        · cases e2
      · cases e
theorem in_ok : Op2 X inD (rInA X.K false) := by
  intro W σ Q α h H x y u v R r1 r2 o
  unfold inD at o
  cases e : inO h x y with
  | none => rw [e] at o; exact o.elim
  | some b =>
    rw [e] at o
    obtain ⟨p, q, h1, h2, h3, h4⟩ := inO_dp R e r1 r2
    exact ⟨p, q, h1, h2, h3, by rw [h4]; exact o α H _ .refl R rfl⟩
theorem notIn_ok : Op2 X notInD (rInA X.K true) := by
  intro W σ Q α h H x y u v R r1 r2 o
  unfold notInD at o
  cases e : inO h x y with
  | none => rw [e] at o; exact o.elim
  | some b =>
    rw [e] at o
    obtain ⟨p, q, h1, h2, h3, h4⟩ := inO_dp R e r1 r2
    exact ⟨p, q, h1, h2, h3, by rw [h4]; exact o α H _ .refl R rfl⟩

/-! ### a chain of two comparisons -/
def mChain (f g : D → D → Sto → R D) (m k l : ME) : ME := fun ρ h => (m ρ h).bind fun x h1 => (k ρ h1).bind fun y h2 => (f x y h2).bind fun z h3 => (boolD z h3).bind fun b h4 =>
  if b then (l ρ h4).bind fun w h5 => g y w h5 else .ok (.bl false) h4
theorem boolD_ok {K : PySem.W.Frag} {mg : Str → Option Value} {σ : L2.St} {β γ : Type} {rep : List Addr → Hp → β → γ → Prop} {Q : γ → Hp → Prop} {α : List Addr} {H : Hp} {z : D} {v : V} {h : Sto} {k : Bool → Sto → R β}
    (r : Rep K α H z v) (o : OkG K mg W σ rep Q α H ((boolD z h).bind k)) : ∃ b, v = .bl b ∧ z = .bl b ∧ OkG K mg W σ rep Q α H (k b h) := by
  cases z with
  | bl b => exact ⟨b, r, rfl, o⟩
  | _ => exact o.elim
theorem chain_imp {f g : D → D → Sto → R D} {r r' : R2} {m k l : ME} (hf : Op2 X f r) (hg : Op2 X g r') {σ : L2.St} {H : Hp} {Q : VK} (x : tD X W (mChain f g m k l) σ H Q) : tChain r r' (tD X W m) (tD X W k) (tD X W l) σ H Q := by
  refine tG.step x fun α1 ρ H1 d1 h1 v1 R1 E1 r1 o1 => ?_
  refine ⟨α1, ρ, h1, R1, E1, OkG.bind o1 fun α2 H2 d2 h2 v2 e2 R2 r2 o2 => ?_⟩
  refine hf W σ _ α2 h2 H2 d1 d2 v1 v2 R2 (Rep.ext e2 d1 r1) r2 (OkG.bind o2 fun α3 H3 z h3 vz e3 R3 rz o3 => ?_)
  obtain ⟨b, rfl, _, o4⟩ := boolD_ok rz o3
  refine ⟨b, rfl, ?_⟩
  cases b with
  | false =>
    simp only [Bool.false_eq_true, if_false] at o4 ⊢
    exact o4 α3 H3 _ .refl R3 rfl
  | true =>
    simp only [if_true] at o4 ⊢
    refine ⟨α3, ρ, h3, R3, (E1.ext e2).ext e3, OkG.bind o4 fun α4 H4 w h4 vw e4 R4 rw' o5 => ?_⟩
    exact hg W σ Q α4 h4 H4 d2 w v2 vw R4 (Rep.ext e4 d2 (Rep.ext e3 d2 r2)) rw' o5
theorem d_chain {op op' : CmpOp} {r r' : R2} {f g : D → D → Sto → R D} {a b c : Expr} {m k l : ME} (ho : OpR X (compareOp op) r) (ho' : OpR X (compareOp op') r') (hf : Op2 X f r) (hg : Op2 X g r') (ha : PE X a (tD X W m)) (hb : PE X b (tD X W k)) (hc : PE X c (tD X W l))
    (hm : lastMarks [op, op'] [b, c] = false := by with_unfolding_all rfl) : PE X (.Compare a [op, op'] [b, c] pos) (tD X W (mChain f g m k l)) :=
  pe_imp (pe_chain ho ho' ha hb hc hm) fun _ _ _ x => chain_imp hf hg x
/-- an expression's reading with a bool wanted -/
theorem tb_of {m : ME} {σ : L2.St} {H : Hp} {Q : Bool → Hp → Prop} (x : tDt X W (mTB m) σ H Q) : tD X W m σ H fun v H' => ∃ b, v = .bl b ∧ Q b H' := by
  obtain ⟨α, ρ, h, R, E, o⟩ := x
  refine ⟨α, ρ, h, R, E, OkG.bind (k := boolD) o fun α1 H1 b h1 c e R1 r1 o1 => ?_⟩
  cases b with
  | bl b =>
    cases (show c = .bl b from r1)
    exact ⟨b, rfl, o1 α1 H1 b .refl R1 rfl⟩
  | _ => exact o1.elim
theorem t_chain {op op' : CmpOp} {r r' : R2} {f g : D → D → Sto → R D} {a b c : Expr} {m k l : ME} (ho : OpR X (compareOp op) r) (ho' : OpR X (compareOp op') r') (hf : Op2 X f r) (hg : Op2 X g r') (ha : PE X a (tD X W m)) (hb : PE X b (tD X W k)) (hc : PE X c (tD X W l))
    (hm : lastMarks [op, op'] [b, c] = false := by with_unfolding_all rfl) : PT X (.Compare a [op, op'] [b, c] pos) (tDt X W (mTB (mChain f g m k l))) :=
  pt_imp (pt_chain ho ho' ha hb hc hm) fun σ H Q x => chain_imp hf hg (Q := fun x H' => ∃ k, x = .bl k ∧ Q k H') (tb_of x)

/-! ### truth -/
def truO (h : Sto) : D → Option Bool
  | .non => some false
  | .bl b => some b
  | .int i => some (i != 0)
  | .str y => if y.length ≤ 16777216 then some ((y.length : Int) != 0) else none
  | .ref n => match anyAt h n with
    | some xs => some (!xs.isEmpty)
    | none => none
  | .tup xs => some (!xs.isEmpty)
  | .ty _ => none
def truD (d : D) (h : Sto) : R Bool := match truO h d with
  | some b => .ok b h
  | none => .no
def mTru (m : ME) : MT := fun ρ h => (m ρ h).bind truD
theorem empty_iff {K : PySem.W.Frag} {α : List Addr} {H : Hp} {xs : List D} {vs : List V} (r : Reps K α H xs vs) : vs.isEmpty = xs.isEmpty := by
  have := Reps.length r
  cases xs <;> cases vs <;> simp at this ⊢
theorem tru_rep {α : List Addr} {h : Sto} {H : Hp} (R : RelH X.K α h H) {d : D} {v : V} {b : Bool} (r : Rep X.K α H d v) (e : truO h d = some b) : TruV X.K v H b := by
  cases d with
  | non => cases e; cases (show v = .non from r); rfl
  | bl x => cases e; cases (show v = .bl b from r); rfl
  | int x => cases e; cases (show v = .int x from r); rfl
  | str y =>
    cases (show v = .str y from r)
    have e : (if y.length ≤ 16777216 then some ((y.length : Int) != 0) else none) = some b := e
    split at e
    · rename_i c; cases e; exact ⟨by rw [sizeLine_eq]; exact c, rfl⟩
    · cases e
  | ref n =>
    unfold truO at e
    dsimp only at e
    cases e1 : anyAt h n with
    | none => rw [e1] at e; cases e
    | some xs =>
      rw [e1] at e
      cases e
      obtain ⟨a, vs, _, rfl, hs, rs⟩ := R.any e1 r
      exact .inl ⟨vs, hs, by rw [empty_iff rs]⟩
  | tup xs =>
    cases e
    obtain ⟨a, vs, rfl, hs, rs⟩ := r
    exact .inr (.inl ⟨vs, hs, by rw [empty_iff rs]⟩)
  | ty _ => cases e
theorem truD_ok {σ : L2.St} {β γ : Type} {rep : List Addr → Hp → β → γ → Prop} {Q : γ → Hp → Prop} {α : List Addr} {H : Hp} {z : D} {v : V} {h : Sto} {k : Bool → Sto → R β} (R : RelH X.K α h H)
    (r : Rep X.K α H z v) (o : OkG X.K X.mg W σ rep Q α H ((truD z h).bind k)) : ∃ b, TruV X.K v H b ∧ OkG X.K X.mg W σ rep Q α H (k b h) := by
  unfold truD at o
  cases e : truO h z with
  | none => rw [e] at o; exact o.elim
  | some b => rw [e] at o; exact ⟨b, tru_rep R r e, o⟩
theorem tru_of {m : ME} {σ : L2.St} {H : Hp} {Q : Bool → Hp → Prop} (x : tDt X W (mTru m) σ H Q) : tD X W m σ H fun v H' => ∃ b, TruV X.K v H' b ∧ Q b H' := by
  obtain ⟨α, ρ, h, R, E, o⟩ := x
  refine ⟨α, ρ, h, R, E, OkG.bind (k := truD) o fun α1 H1 d h1 c e R1 r1 o1 => ?_⟩
  have o2 : OkG X.K X.mg W σ (fun _ _ b c => b = c) Q α1 H1 ((truD d h1).bind fun b h => .ok b h) := by
    cases q : truD d h1 with
    | ok b h => rw [q] at o1; exact o1
    | ex b h => rw [q] at o1; exact o1
    | no => rw [q] at o1; exact o1
  obtain ⟨b, t, o3⟩ := truD_ok R1 r1 o2
  exact ⟨b, t, o3 α1 H1 b .refl R1 rfl⟩
/-- any expression's truth (a name, a call, a subscript, a constant ..) -/
theorem t_tru {a : Expr} {m : ME} (ha : PE X a (tD X W m)) (he : ∀ whole, isTrue a X.env whole = (do let v ← whole; standAt a.pos; holding [v] (truthy v)) := by intro _; rfl) : PT X a (tDt X W (mTru m)) :=
  pt_imp (pt_truth ha he) fun _ _ _ x => tru_of x
/-- not -/
def mNotT (m : MT) : MT := fun ρ h => (m ρ h).bind fun b h1 => .ok (!b) h1
theorem t_not {a : Expr} {m : MT} (ha : PT X a (tDt X W m)) : PT X (.UnaryOp .Not a pos) (tDt X W (mNotT m)) := by
  refine pt_imp (pt_not ha) fun σ H Q x => ?_
  refine tG.step x fun α1 ρ H1 b h1 c R1 E1 r1 o1 => ?_
  cases r1
  exact o1 α1 H1 _ .refl R1 rfl
/-- and, or as tests -/
def mAndT (m k : MT) : MT := fun ρ h => (m ρ h).bind fun b h1 => if b then k ρ h1 else .ok false h1
def mOrT (m k : MT) : MT := fun ρ h => (m ρ h).bind fun b h1 => if b then .ok true h1 else k ρ h1
theorem w_and1 {a : Expr} {m : MT} (ha : PT X a (tDt X W m)) : PW X (.BoolOp .And [a] pos) (tDt X W m) := pw_and1 ha
theorem w_or1 {a : Expr} {m : MT} (ha : PT X a (tDt X W m)) : PW X (.BoolOp .Or [a] pos) (tDt X W m) := pw_or1 ha
theorem w_and {a b : Expr} {rest : List Expr} {m k : MT} (ha : PT X a (tDt X W m)) (hb : PW X (.BoolOp .And (b :: rest) pos) (tDt X W k)) : PW X (.BoolOp .And (a :: b :: rest) pos) (tDt X W (mAndT m k)) := by
  refine pw_imp (pw_and ha hb) fun σ H Q x => ?_
  refine tG.step x fun α1 ρ H1 b h1 c R1 E1 r1 o1 => ?_
  cases r1
  cases b with
  | true => exact ⟨α1, ρ, h1, R1, E1, o1⟩
  | false => exact o1 α1 H1 _ .refl R1 rfl
theorem w_or {a b : Expr} {rest : List Expr} {m k : MT} (ha : PT X a (tDt X W m)) (hb : PW X (.BoolOp .Or (b :: rest) pos) (tDt X W k)) : PW X (.BoolOp .Or (a :: b :: rest) pos) (tDt X W (mOrT m k)) := by
  refine pw_imp (pw_or ha hb) fun σ H Q x => ?_
  refine tG.step x fun α1 ρ H1 b h1 c R1 E1 r1 o1 => ?_
  cases r1
  cases b with
  | true => exact o1 α1 H1 _ .refl R1 rfl
  | false => exact ⟨α1, ρ, h1, R1, E1, o1⟩
/-- not as a value -/
def mNot (m : ME) : ME := fun ρ h => (m ρ h).bind fun d h1 => (truD d h1).bind fun b h2 => .ok (.bl (!b)) h2
theorem d_not {a : Expr} {m : ME} (ha : PE X a (tD X W m)) : PE X (.UnaryOp .Not a pos) (tD X W (mNot m)) := by
  refine pe_imp (pe_notT ha) fun σ H Q x => ?_
  refine tG.step x fun α1 ρ H1 d h1 v R1 E1 r1 o1 => ?_
  obtain ⟨b, t, o2⟩ := truD_ok R1 r1 o1
  exact ⟨b, t, o2 α1 H1 _ .refl R1 rfl⟩
/-- and, or as values -/
def mAnd (m k : ME) : ME := fun ρ h => (m ρ h).bind fun d h1 => (truD d h1).bind fun b h2 => if b then k ρ h2 else .ok d h2
def mOr (m k : ME) : ME := fun ρ h => (m ρ h).bind fun d h1 => (truD d h1).bind fun b h2 => if b then .ok d h2 else k ρ h2
theorem d_one {op} {a : Expr} {m : ME} (ha : PE X a (tD X W m)) : PE X (.BoolOp op [a] pos) (tD X W m) := pe_one ha
theorem d_and {a b : Expr} {rest : List Expr} {m k : ME} (ha : PE X a (tD X W m)) (hb : PE X (.BoolOp .And (b :: rest) pos) (tD X W k)) : PE X (.BoolOp .And (a :: b :: rest) pos) (tD X W (mAnd m k)) := by
  refine pe_imp (pe_andT ha hb) fun σ H Q x => ?_
  refine tG.step x fun α1 ρ H1 d h1 v R1 E1 r1 o1 => ?_
  obtain ⟨b, t, o2⟩ := truD_ok R1 r1 o1
  refine ⟨b, t, ?_⟩
  cases b with
  | true => exact ⟨α1, ρ, h1, R1, E1, o2⟩
  | false => exact o2 α1 H1 _ .refl R1 r1
theorem d_or {a b : Expr} {rest : List Expr} {m k : ME} (ha : PE X a (tD X W m)) (hb : PE X (.BoolOp .Or (b :: rest) pos) (tD X W k)) : PE X (.BoolOp .Or (a :: b :: rest) pos) (tD X W (mOr m k)) := by
  refine pe_imp (pe_orT ha hb) fun σ H Q x => ?_
  refine tG.step x fun α1 ρ H1 d h1 v R1 E1 r1 o1 => ?_
  obtain ⟨b, t, o2⟩ := truD_ok R1 r1 o1
  refine ⟨b, t, ?_⟩
  cases b with
  | true => exact o2 α1 H1 _ .refl R1 r1
  | false => exact ⟨α1, ρ, h1, R1, E1, o2⟩
/-- a if t else b -/
def mIf (t : MT) (m k : ME) : ME := fun ρ h => (t ρ h).bind fun b h1 => if b then m ρ h1 else k ρ h1
theorem d_if {c a b : Expr} {t : MT} {m k : ME} (hc : PT X c (tDt X W t)) (ha : PE X a (tD X W m)) (hb : PE X b (tD X W k)) : PE X (.IfExp c a b pos) (tD X W (mIf t m k)) := by
  refine pe_imp (pe_ifExp hc ha hb) fun σ H Q x => ?_
  refine tG.step x fun α1 ρ H1 b h1 v R1 E1 r1 o1 => ?_
  cases r1
  cases b with
  | true => exact ⟨α1, ρ, h1, R1, E1, o1⟩
  | false => exact ⟨α1, ρ, h1, R1, E1, o1⟩

/-! ### subscripts, slices -/
def ixD : D → D → Sto → R D
  | .ref n, .int i, h => match anyAt h n with
    | some xs => match atI xs i with
      | some d => .ok d h
      | none => .no
    | none => .no
  | .tup xs, .int i, h => match atI xs i with
    | some d => .ok d h
    | none => .no
  | _, _, _ => .no
abbrev rIxA (K : PySem.W.Frag) : R2 := fun x y H Q => rIxL K x y H Q ∨ rIxT K x y H Q
theorem ix_A : IxR X (rIxA X.K) := IxR.or ix_list ix_tup
theorem atI_rep {K : PySem.W.Frag} {α : List Addr} {H : Hp} {xs : List D} {vs : List V} {i : Int} {d : D} (r : Reps K α H xs vs) (e : atI xs i = some d) : ∃ v, atI vs i = some v ∧ Rep K α H d v := by
  unfold atI at e ⊢
  rw [Reps.length r]
  cases q : ixN xs.length i with
  | none => rw [q] at e; cases e
  | some j =>
    rw [q] at e
    obtain ⟨v, h1, h2⟩ := Reps.get r (show xs[j]? = some d from e)
    exact ⟨v, h1, h2⟩
theorem ix_ok : Op2 X ixD (rIxA X.K) := by
  intro W σ Q α h H x y u v R r1 r2 o
  cases x with
  | ref n =>
    cases y with
    | int i =>
      cases (show v = .int i from r2)
      unfold ixD at o
      dsimp only at o
      cases e1 : anyAt h n with
      | none => rw [e1] at o; exact o.elim
      | some xs =>
        rw [e1] at o
        dsimp only at o
        cases e2 : atI xs i with
        | none => rw [e2] at o; exact o.elim
        | some d =>
          rw [e2] at o
          obtain ⟨a, vs, _, rfl, hs, rs⟩ := R.any e1 r1
          obtain ⟨w, h1, h2⟩ := atI_rep rs e2
          exact .inl ⟨a, vs, i, w, rfl, rfl, hs, h1, o α H w .refl R h2⟩
    | _ => exact o.elim
  | tup xs =>
    cases y with
    | int i =>
      cases (show v = .int i from r2)
      unfold ixD at o
      dsimp only at o
      cases e2 : atI xs i with
      | none => rw [e2] at o; exact o.elim
      | some d =>
        rw [e2] at o
        obtain ⟨a, vs, rfl, hs, rs⟩ := r1
        obtain ⟨w, h1, h2⟩ := atI_rep rs e2
        exact .inr ⟨a, vs, i, w, rfl, rfl, hs, h1, o α H w .refl R h2⟩
    | _ => exact o.elim
  | _ => cases y <;> exact o.elim
theorem d_ix {a b : Expr} {m k : ME} (ha : PE X a (tD X W m)) (hb : PE X b (tD X W k)) (hs : PlainIx b := by intro _ _; rfl) : PE X (.Subscript a b pos) (tD X W (mBin ixD m k)) := by
  refine pe_imp (pe_ix ix_A ha hb hs) fun σ H Q x => ?_
  refine tG.step x fun α1 ρ H1 d1 h1 v1 R1 E1 r1 o1 => ?_
  refine ⟨α1, ρ, h1, R1, E1, OkG.bind o1 fun α2 H2 d2 h2 v2 e2 R2 r2 o2 => ?_⟩
  exact ix_ok W σ Q α2 h2 H2 d1 d2 v1 v2 R2 (Rep.ext e2 d1 r1) r2 o2
/-- a slice's part -/
abbrev MO := MG (Option Int)
abbrev tDo (X : Cx) (W : WX) (m : MO) : TO := tG X W (fun _ _ b c => b = c) m
theorem po_imp {e : Option Expr} {t t' : TO} (h : PO X e t) (f : ∀ σ H Q, t' σ H Q → t σ H Q) : PO X e t' := ⟨fun pins s σ H Q I q => h.run pins s σ H Q I (f σ H Q q)⟩
def mNoP : MO := fun _ h => .ok none h
def intD : D → Sto → R (Option Int)
  | .int i, h => .ok (some i) h
  | _, _ => .no
def mPart (m : ME) : MO := fun ρ h => (m ρ h).bind intD
theorem o_none : PO X none (tDo X W mNoP) := po_imp po_none fun σ H Q x => by
  obtain ⟨α, ρ, h, R, E, o⟩ := x
  exact o α H none .refl R rfl
theorem o_some {e : Expr} {m : ME} (he : PE X e (tD X W m)) : PO X (some e) (tDo X W (mPart m)) := po_imp (po_some he) fun σ H Q x => by
  obtain ⟨α, ρ, h, R, E, o⟩ := x
  refine ⟨α, ρ, h, R, E, OkG.bind (k := intD) o fun α1 H1 d h1 c e R1 r1 o1 => ?_⟩
  cases d with
  | int i =>
    cases (show c = .int i from r1)
    exact ⟨i, rfl, o1 α1 H1 _ .refl R1 rfl⟩
  | _ => exact o1.elim
def cutD (xs : List D) (lo hi : Option Int) : List D := (xs.drop (HT.sIx xs.length 0 lo)).take (HT.sIx xs.length xs.length hi - HT.sIx xs.length 0 lo)
def slD (x : D) (lo hi : Option Int) (h : Sto) : R D := match x with
  | .ref n => match anyAt h n with
    | some xs => .ok (.ref h.length) (h ++ [.lst (cutD xs lo hi)])
    | none => .no
  | .tup xs => .ok (.tup (cutD xs lo hi)) h
  | _ => .no
def mSl (m : ME) (l u : MO) : ME := fun ρ h => (m ρ h).bind fun x h1 => (l ρ h1).bind fun lo h2 => (u ρ h2).bind fun hi h3 => slD x lo hi h3
theorem cut_rep {K : PySem.W.Frag} {α : List Addr} {H : Hp} {xs : List D} {vs : List V} {lo hi : Option Int} (r : Reps K α H xs vs) : Reps K α H (cutD xs lo hi) (cutV vs lo hi) := by
  unfold cutD cutV
  rw [Reps.length r]
  exact Reps.take _ (Reps.drop _ r)
theorem cut_whole {β : Type} (xs : List β) (lo hi : Option Int) (h : HT.sIx xs.length 0 lo = 0 ∧ HT.sIx xs.length xs.length hi = xs.length) : (xs.drop (HT.sIx xs.length 0 lo)).take (HT.sIx xs.length xs.length hi - HT.sIx xs.length 0 lo) = xs := by
  rw [h.1, h.2]; simp
theorem d_sl {e : Expr} {lo hi : Option Expr} {p2 : Pos} {m : ME} {l u : MO} (he : PE X e (tD X W m)) (hl : PO X lo (tDo X W l)) (hu : PO X hi (tDo X W u)) : PE X (.Subscript e (.Slice lo hi none p2) pos) (tD X W (mSl m l u)) := by
  refine pe_imp (pe_slice (SlR.or sl_list sl_tupA) he hl hu) fun σ H Q x => ?_
  refine tG.step x fun α1 ρ H1 d h1 v R1 E1 r1 o1 => ?_
  refine ⟨α1, ρ, h1, R1, E1, OkG.bind o1 fun α2 H2 a h2 a' e2 R2 r2 o2 => ?_⟩
  cases r2
  refine ⟨α2, ρ, h2, R2, E1.ext e2, OkG.bind o2 fun α3 H3 b h3 b' e3 R3 r3 o3 => ?_⟩
  cases r3
  have r := Rep.ext e3 d (Rep.ext e2 d r1)
  cases d with
  | ref n =>
    unfold slD at o3
    dsimp only at o3
    cases e1 : anyAt h3 n with
    | none => rw [e1] at o3; exact o3.elim
    | some xs =>
      rw [e1] at o3
      obtain ⟨p, vs, _, rfl, hs, rs⟩ := R3.any e1 r
      exact .inl ⟨p, vs, rfl, hs, fun q hq => o3 (α3 ++ [q]) _ _ (Ext.new hq [q]) (R3.newLst hq (cut_rep rs)) (fresh_ref R3)⟩
  | tup xs =>
    unfold slD at o3
    obtain ⟨p, vs, rfl, hs, rs⟩ := r
    refine .inr ⟨p, vs, rfl, hs, fun hw => ?_, fun hw q hq => ?_⟩
    · refine o3 α3 H3 _ .refl R3 ⟨p, vs, rfl, hs, ?_⟩
      have l1 := Reps.length rs
      rw [l1] at hw
      have : cutD xs a b = xs := cut_whole xs a b hw
      rw [this]
      exact rs
    · exact o3 α3 _ _ (Ext.newTup hq) (R3.newTup hq) ⟨q, _, rfl, .inl (.inl upd_same), Reps.ext (Ext.newTup hq) _ (cut_rep rs)⟩
  | _ => exact o3.elim
end
end Ml
/-! The mill, part 5: calls of built-ins, isinstance, calls of defs, what a def promises. -/
namespace Ml
open PySem PySem.Spec L2

/-! ### built-ins by values -/
def CallN (X : Cx) (f : List D → Sto → R D) (r : List V → Hp → VK → Prop) : Prop := ∀ (W : WX) (σ : L2.St) (Q : VK) α h H ds vs, RelH X.K α h H → Reps X.K α H ds vs → OkG X.K X.mg W σ (Rep X.K) Q α H (f ds h) → r vs H Q
def mCall (f : List D → Sto → R D) (k : MA) : ME := fun ρ h => (k ρ h).bind fun ds h1 => f ds h1
section
variable {X : Cx} {W : WX} {pos p : Pos} {x : Str} {e : Expr} {es : List Expr} {k : MA} {id T : String} {f : List D → Sto → R D} {r : List V → Hp → VK → Prop}
theorem d_callB (hc : CallR X (.builtin id) r) (hf : CallN X f r) (hg : Gl X x) (hm : X.mg x = none) (hv : bootBuiltins x = some (.builtin id)) (ha : PA X (e :: es) (tDs X W k)) (hn : x ≠ "__name__" := by decide) (hdb : (x == ("__debug__" : Str)) = false := by decide)
    (he : starEach (e :: es) X.env = (false, eval e X.env) :: starEach es X.env := by rfl) (hpl : (backTo pos (starEach es X.env)).any (·.1) = false := by rfl) : PE X (.Call (.Name x p) (e :: es) [] pos) (tD X W (mCall f k)) := by
  refine pe_imp (pe_callB hc hg hm hv ha hn hdb he hpl) fun σ H Q x => ?_
  refine tG.step x fun α1 ρ H1 ds h1 vs R1 E1 r1 o1 => ?_
  exact hf W σ Q α1 h1 H1 ds vs R1 r1 o1
theorem d_callTy (hc : CallR X (.type T) r) (hf : CallN X f r) (hg : Gl X x) (hm : X.mg x = none) (hv : bootBuiltins x = some (.type T)) (ha : PA X (e :: es) (tDs X W k)) (hn : x ≠ "__name__" := by decide) (hdb : (x == ("__debug__" : Str)) = false := by decide)
    (he : starEach (e :: es) X.env = (false, eval e X.env) :: starEach es X.env := by rfl) (hpl : (backTo pos (starEach es X.env)).any (·.1) = false := by rfl) : PE X (.Call (.Name x p) (e :: es) [] pos) (tD X W (mCall f k)) := by
  refine pe_imp (pe_callTy hc hg hm hv ha hn hdb he hpl) fun σ H Q x => ?_
  refine tG.step x fun α1 ρ H1 ds h1 vs R1 E1 r1 o1 => ?_
  exact hf W σ Q α1 h1 H1 ds vs R1 r1 o1
end
section
variable {X : Cx}
/-- len -/
def lenF : List D → Sto → R D
  | [.ref n], h => match anyAt h n with
    | some xs => .ok (.int xs.length) h
    | none => .no
  | [.tup xs], h => .ok (.int xs.length) h
  | _, _ => .no
theorem len_ok : CallN X lenF (fun xs H Q => ∃ p ys, xs = [.ref p] ∧ (SqL X.K H p ys ∨ SqT X.K H p ys) ∧ Q (.int ys.length) H) := by
  intro W σ Q α h H ds vs R rs o
  unfold lenF at o
  split at o
  · rename_i n
    obtain ⟨v, r, rfl, r1, r2⟩ := rs
    cases r2
    cases e1 : anyAt h n with
    | none => rw [e1] at o; exact o.elim
    | some xs =>
      rw [e1] at o
      obtain ⟨a, vs, _, rfl, hs, rs⟩ := R.any e1 r1
      exact ⟨a, vs, rfl, .inl hs, by rw [Reps.length rs]; exact o α H _ .refl R rfl⟩
  · rename_i xs
    obtain ⟨v, r, rfl, ⟨a, vs, rfl, hs, rs⟩, r2⟩ := rs
    cases r2
    exact ⟨a, vs, rfl, .inr hs, by rw [Reps.length rs]; exact o α H _ .refl R rfl⟩
  · exact o.elim
/-- abs, int, bool of a number -/
def absF : List D → Sto → R D
  | [.int i], h => .ok (.int (if i < 0 then -i else i)) h
  | _, _ => .no
theorem abs_ok : CallN X absF (fun xs H Q => ∃ i, xs = [.int i] ∧ Q (.int (if i < 0 then -i else i)) H) := by
  intro W σ Q α h H ds vs R rs o
  unfold absF at o
  split at o
  · rename_i i
    obtain ⟨v, r, rfl, r1, r2⟩ := rs
    cases r2
    cases (show v = .int i from r1)
    exact ⟨i, rfl, o α H _ .refl R rfl⟩
  · exact o.elim
def intF : List D → Sto → R D
  | [.int i], h => .ok (.int i) h
  | [.bl b], h => .ok (.int (if b then 1 else 0)) h
  | _, _ => .no
theorem int_ok : CallN X intF (fun xs H Q => (∃ i, xs = [.int i] ∧ Q (.int i) H) ∨ ∃ k, xs = [.bl k] ∧ Q (.int (if k then 1 else 0)) H) := by
  intro W σ Q α h H ds vs R rs o
  unfold intF at o
  split at o
  · rename_i i
    obtain ⟨v, r, rfl, r1, r2⟩ := rs
    cases r2
    cases (show v = .int i from r1)
    exact .inl ⟨i, rfl, o α H _ .refl R rfl⟩
  · rename_i i
    obtain ⟨v, r, rfl, r1, r2⟩ := rs
    cases r2
    cases (show v = .bl i from r1)
    exact .inr ⟨i, rfl, o α H _ .refl R rfl⟩
  · exact o.elim
/-- max, min of two ints, of a list of ints -/
def allInt : List D → Option (List Int)
  | [] => some []
  | .int i :: r => match allInt r with
    | some is => some (i :: is)
    | none => none
  | _ :: _ => none
theorem allInt_rep {K : PySem.W.Frag} {α : List Addr} {H : Hp} : ∀ {xs : List D} {is : List Int} {vs : List V}, allInt xs = some is → Reps K α H xs vs → vs = is.map V.int
  | [], _, _, e, r => by cases e; cases r; rfl
  | x :: xs, is, _, e, ⟨v, r, q, h, t⟩ => by
    subst q
    cases x with
    | int i =>
      unfold allInt at e
      cases e1 : allInt xs with
      | none => rw [e1] at e; cases e
      | some js =>
        rw [e1] at e
        cases e
        cases (show v = .int i from h)
        rw [allInt_rep e1 t]
        rfl
    | _ => cases e
def maxI : Int → List Int → Int
  | m, [] => m
  | m, x :: r => maxI (if x > m then x else m) r
def minI : Int → List Int → Int
  | m, [] => m
  | m, x :: r => minI (if x < m then x else m) r
theorem maxI_spec : ∀ (r : List Int) (m : Int), (maxI m r = m ∨ maxI m r ∈ r) ∧ m ≤ maxI m r ∧ ∀ y ∈ r, y ≤ maxI m r
  | [], m => ⟨.inl rfl, Int.le_refl _, fun _ h => nomatch h⟩
  | x :: r, m => by
    obtain ⟨h1, h2, h3⟩ := maxI_spec r (if x > m then x else m)
    unfold maxI
    by_cases c : x > m
    · simp only [c, if_true] at h1 h2 h3 ⊢
      refine ⟨?_, by omega, fun y hy => ?_⟩
      · rcases h1 with h1 | h1
        · rw [h1]; exact .inr (by simp)
        · exact .inr (List.mem_cons_of_mem _ h1)
      · rcases List.mem_cons.mp hy with rfl | hy
        · exact h2
        · exact h3 y hy
    · simp only [c, if_false] at h1 h2 h3 ⊢
      refine ⟨?_, h2, fun y hy => ?_⟩
      · rcases h1 with h1 | h1
        · exact .inl h1
        · exact .inr (List.mem_cons_of_mem _ h1)
      · rcases List.mem_cons.mp hy with rfl | hy
        · omega
        · exact h3 y hy
theorem minI_spec : ∀ (r : List Int) (m : Int), (minI m r = m ∨ minI m r ∈ r) ∧ minI m r ≤ m ∧ ∀ y ∈ r, minI m r ≤ y
  | [], m => ⟨.inl rfl, Int.le_refl _, fun _ h => nomatch h⟩
  | x :: r, m => by
    obtain ⟨h1, h2, h3⟩ := minI_spec r (if x < m then x else m)
    unfold minI
    by_cases c : x < m
    · simp only [c, if_true] at h1 h2 h3 ⊢
      refine ⟨?_, by omega, fun y hy => ?_⟩
      · rcases h1 with h1 | h1
        · rw [h1]; exact .inr (by simp)
        · exact .inr (List.mem_cons_of_mem _ h1)
      · rcases List.mem_cons.mp hy with rfl | hy
        · exact h2
        · exact h3 y hy
    · simp only [c, if_false] at h1 h2 h3 ⊢
      refine ⟨?_, h2, fun y hy => ?_⟩
      · rcases h1 with h1 | h1
        · exact .inl h1
        · exact .inr (List.mem_cons_of_mem _ h1)
      · rcases List.mem_cons.mp hy with rfl | hy
        · omega
        · exact h3 y hy
def maxF : List D → Sto → R D
  | [.int i, .int j], h => .ok (.int (if j > i then j else i)) h
  | [.ref n], h => match anyAt h n with
    | some xs => match allInt xs with
      | some (i :: is) => .ok (.int (maxI i is)) h
      | _ => .no
    | none => .no
  | _, _ => .no
def minF : List D → Sto → R D
  | [.int i, .int j], h => .ok (.int (if j < i then j else i)) h
  | [.ref n], h => match anyAt h n with
    | some xs => match allInt xs with
      | some (i :: is) => .ok (.int (minI i is)) h
      | _ => .no
    | none => .no
  | _, _ => .no
theorem max_ok : CallN X maxF (fun xs H Q => (∃ i j, xs = [.int i, .int j] ∧ Q (.int (if j > i then j else i)) H) ∨ rMax X.K xs H Q) := by
  intro W σ Q α h H ds vs R rs o
  unfold maxF at o
  split at o
  · rename_i i j
    obtain ⟨v, r, rfl, r1, v2, r', rfl, r2, r3⟩ := rs
    cases r3
    cases (show v = .int i from r1)
    cases (show v2 = .int j from r2)
    exact .inl ⟨i, j, rfl, o α H _ .refl R rfl⟩
  · rename_i n
    obtain ⟨v, r, rfl, r1, r2⟩ := rs
    cases r2
    cases e1 : anyAt h n with
    | none => rw [e1] at o; exact o.elim
    | some xs =>
      rw [e1] at o
      dsimp only at o
      split at o
      · rename_i i is e2
        obtain ⟨a, vs, _, rfl, hs, rs⟩ := R.any e1 r1
        have := allInt_rep e2 rs
        subst this
        refine .inr ⟨a, i :: is, rfl, hs, by simp, fun m hm hy => ?_⟩
        obtain ⟨h1, h2, h3⟩ := maxI_spec is i
        have hmem : maxI i is ∈ i :: is := by
          rcases h1 with h1 | h1
          · rw [h1]; simp
          · exact List.mem_cons_of_mem _ h1
        have e : m = maxI i is := by
          have a1 := hy _ hmem
          have a2 : m ≤ maxI i is := by
            rcases List.mem_cons.mp hm with rfl | hm
            · exact h2
            · exact h3 _ hm
          omega
        subst e
        exact o α H _ .refl R rfl
      · exact o.elim
  · exact o.elim
theorem min_ok : CallN X minF (fun xs H Q => (∃ i j, xs = [.int i, .int j] ∧ Q (.int (if j < i then j else i)) H) ∨ rMin X.K xs H Q) := by
  intro W σ Q α h H ds vs R rs o
  unfold minF at o
  split at o
  · rename_i i j
    obtain ⟨v, r, rfl, r1, v2, r', rfl, r2, r3⟩ := rs
    cases r3
    cases (show v = .int i from r1)
    cases (show v2 = .int j from r2)
    exact .inl ⟨i, j, rfl, o α H _ .refl R rfl⟩
  · rename_i n
    obtain ⟨v, r, rfl, r1, r2⟩ := rs
    cases r2
    cases e1 : anyAt h n with
    | none => rw [e1] at o; exact o.elim
    | some xs =>
      rw [e1] at o
      dsimp only at o
      split at o
      · rename_i i is e2
        obtain ⟨a, vs, _, rfl, hs, rs⟩ := R.any e1 r1
        have := allInt_rep e2 rs
        subst this
        refine .inr ⟨a, i :: is, rfl, hs, by simp, fun m hm hy => ?_⟩
        obtain ⟨h1, h2, h3⟩ := minI_spec is i
        have hmem : minI i is ∈ i :: is := by
          rcases h1 with h1 | h1
          · rw [h1]; simp
          · exact List.mem_cons_of_mem _ h1
        have e : m = minI i is := by
          have a1 := hy _ hmem
          have a2 : minI i is ≤ m := by
            rcases List.mem_cons.mp hm with rfl | hm
            · exact h2
            · exact h3 _ hm
          omega
        subst e
        exact o α H _ .refl R rfl
      · exact o.elim
  · exact o.elim
/-- sum of a list or a tuple of ints -/
theorem sum_tup {prog : Program} {w : World} {A : Around} {E : Value → Shared → Prop} {s : Shared} {t : Addr} {its : List Value} {ns : List Int} {Q : Value → Shared → Prop} (hh : A.handled = none) (hl : s.heap.IsTuple t its.toArray) (hi : PyProof.Rows.IntsAre its ns)
    (h : ∀ h' tk t', (∀ b o, s.heap.get? b = some o → h'.get? b = some o) → Q (.int ns.sum t') { s with heap := h', toks := tk }) : wpAny (model prog w) A (call (.builtin "sum") [.ref t]) Q E s := by
  obtain ⟨xs, e⟩ := hi.allInts.items
  have hn : numsOf (intItems xs).toList = ns := by rw [← e]; exact hi.numsOf
  rw [nums_intItems] at hn
  rw [e] at hl
  refine PySem.W.ktm_sumG hh hl fun h' tk t' hk => ?_
  have := h h' tk t' hk
  rw [preSum_eq, List.take_of_length_le (by simp), hn]; exact this
def rSumT (K : PySem.W.Frag) : List V → Hp → VK → Prop := fun vs H Q => ∃ (a : Addr) (ns : List Int), vs = [V.ref a] ∧ SqT K H a (ns.map V.int) ∧ Q (.int ns.sum) H
theorem cr_sumT (hc : X.calm = true) : CallR X (.builtin "sum") (rSumT X.K) := by
  intro pins s σ H vs us Q I r h
  obtain ⟨a, ns, rfl, hs, q⟩ := h
  obtain ⟨its, rv, hl, _⟩ := I.tuple hs
  rw [Vals.ref1 r]
  exact sum_tup (I.ok.hd hc) (show s.heap.IsTuple a its.toArray from hl) rv.ints fun h' tk t' hk => ⟨.int _, H, I.kept hk, ⟨_, rfl⟩, q⟩
def sumF : List D → Sto → R D
  | [.ref n], h => match anyAt h n with
    | some xs => match allInt xs with
      | some is => .ok (.int is.sum) h
      | none => .no
    | none => .no
  | [.tup xs], h => match allInt xs with
    | some is => .ok (.int is.sum) h
    | none => .no
  | _, _ => .no
theorem sum_ok : CallN X sumF (fun xs H Q => rSum X.K xs H Q ∨ rSumT X.K xs H Q) := by
  intro W σ Q α h H ds vs R rs o
  unfold sumF at o
  split at o
  · rename_i n
    obtain ⟨v, r, rfl, r1, r2⟩ := rs
    cases r2
    cases e1 : anyAt h n with
    | none => rw [e1] at o; exact o.elim
    | some xs =>
      rw [e1] at o
      dsimp only at o
      split at o
      · rename_i is e2
        obtain ⟨a, vs, _, rfl, hs, rs⟩ := R.any e1 r1
        have := allInt_rep e2 rs
        subst this
        exact .inl ⟨a, is, rfl, hs, o α H _ .refl R rfl⟩
      · exact o.elim
  · rename_i xs
    obtain ⟨v, r, rfl, ⟨a, vs, rfl, hs, rs⟩, r2⟩ := rs
    cases r2
    split at o
    · rename_i is e2
      have := allInt_rep e2 rs
      subst this
      exact .inr ⟨a, is, rfl, hs, o α H _ .refl R rfl⟩
    · exact o.elim
  · exact o.elim
/-- all, any of a list of bools -/
def allBl : List D → Option (List Bool)
  | [] => some []
  | .bl i :: r => match allBl r with
    | some is => some (i :: is)
    | none => none
  | _ :: _ => none
theorem allBl_rep {K : PySem.W.Frag} {α : List Addr} {H : Hp} : ∀ {xs : List D} {is : List Bool} {vs : List V}, allBl xs = some is → Reps K α H xs vs → vs = is.map V.bl
  | [], _, _, e, r => by cases e; cases r; rfl
  | x :: xs, is, _, e, ⟨v, r, q, h, t⟩ => by
    subst q
    cases x with
    | bl i =>
      unfold allBl at e
      cases e1 : allBl xs with
      | none => rw [e1] at e; cases e
      | some js =>
        rw [e1] at e
        cases e
        cases (show v = .bl i from h)
        rw [allBl_rep e1 t]
        rfl
    | _ => cases e
def blF (g : List Bool → Bool) : List D → Sto → R D
  | [.ref n], h => match anyAt h n with
    | some xs => match allBl xs with
      | some is => .ok (.bl (g is)) h
      | none => .no
    | none => .no
  | _, _ => .no
abbrev allF := blF fun bs => bs.all id
abbrev anyF := blF fun bs => bs.any id
theorem bl_ok {g : List Bool → Bool} : CallN X (blF g) (fun vs H Q => ∃ (a : Addr) (bs : List Bool), vs = [V.ref a] ∧ SqL X.K H a (bs.map V.bl) ∧ Q (.bl (g bs)) H) := by
  intro W σ Q α h H ds vs R rs o
  unfold blF at o
  split at o
  · rename_i n
    obtain ⟨v, r, rfl, r1, r2⟩ := rs
    cases r2
    cases e1 : anyAt h n with
    | none => rw [e1] at o; exact o.elim
    | some xs =>
      rw [e1] at o
      dsimp only at o
      split at o
      · rename_i is e2
        obtain ⟨a, vs, _, rfl, hs, rs⟩ := R.any e1 r1
        have := allBl_rep e2 rs
        subst this
        exact ⟨a, is, rfl, hs, o α H _ .refl R rfl⟩
      · exact o.elim
  · exact o.elim
/-- list(..), tuple(..) -/
def listF : List D → Sto → R D
  | [.ref n], h => match anyAt h n with
    | some xs => .ok (.ref h.length) (h ++ [.lst xs])
    | none => .no
  | [.tup xs], h => .ok (.ref h.length) (h ++ [.lst xs])
  | _, _ => .no
theorem list_ok : CallN X listF (fun xs H Q => ∃ p ys, xs = [.ref p] ∧ (SqL X.K H p ys ∨ SqT X.K H p ys) ∧ ∀ l, H l = none → Q (.ref l) (upd H l (.lst ys))) := by
  intro W σ Q α h H ds vs R rs o
  unfold listF at o
  split at o
  · rename_i n
    obtain ⟨v, r, rfl, r1, r2⟩ := rs
    cases r2
    cases e1 : anyAt h n with
    | none => rw [e1] at o; exact o.elim
    | some xs =>
      rw [e1] at o
      obtain ⟨a, vs, _, rfl, hs, rs⟩ := R.any e1 r1
      exact ⟨a, vs, rfl, .inl hs, fun l hl => o (α ++ [l]) _ _ (Ext.new hl [l]) (R.newLst hl rs) (fresh_ref R)⟩
  · rename_i xs
    obtain ⟨v, r, rfl, ⟨a, vs, rfl, hs, rs⟩, r2⟩ := rs
    cases r2
    exact ⟨a, vs, rfl, .inr hs, fun l hl => o (α ++ [l]) _ _ (Ext.new hl [l]) (R.newLst hl rs) (fresh_ref R)⟩
  · exact o.elim
def tupF : List D → Sto → R D
  | [.ref n], h => match anyAt h n with
    | some xs => .ok (.tup xs) h
    | none => .no
  | [.tup xs], h => .ok (.tup xs) h
  | _, _ => .no
theorem tup_ok : CallN X tupF (fun xs H Q => ∃ p ys, xs = [.ref p] ∧ ((SqL X.K H p ys ∧ ∀ l, H l = none → Q (.ref l) (upd H l (.tup ys))) ∨ (SqT X.K H p ys ∧ Q (.ref p) H))) := by
  intro W σ Q α h H ds vs R rs o
  unfold tupF at o
  split at o
  · rename_i n
    obtain ⟨v, r, rfl, r1, r2⟩ := rs
    cases r2
    cases e1 : anyAt h n with
    | none => rw [e1] at o; exact o.elim
    | some xs =>
      rw [e1] at o
      obtain ⟨a, vs, _, rfl, hs, rs⟩ := R.any e1 r1
      exact ⟨a, vs, rfl, .inl ⟨hs, fun l hl => o α _ _ (Ext.newTup hl) (R.newTup hl) ⟨l, vs, rfl, .inl (.inl upd_same), Reps.ext (Ext.newTup hl) _ rs⟩⟩⟩
  · rename_i xs
    obtain ⟨v, r, rfl, ⟨a, vs, rfl, hs, rs⟩, r2⟩ := rs
    cases r2
    exact ⟨a, vs, rfl, .inr ⟨hs, o α H _ .refl R ⟨a, vs, rfl, hs, rs⟩⟩⟩
  · exact o.elim

/-! ### isinstance -/
def tyO (h : Sto) : D → Option String
  | .non => some "NoneType"
  | .bl _ => some "bool"
  | .int _ => some "int"
  | .str _ => some "str"
  | .ref n => match anyAt h n with
    | some _ => some "list"
    | none => none
  | .tup _ => some "tuple"
  | .ty _ => none
/-- is a value of this kind one of that type -/
def isT (h : Sto) : D → T5 → Option Bool
  | .non, _ => some false
  | .bl _, .bool => some true
  | .bl _, .int => some true
  | .bl _, _ => some false
  | .int _, .int => some true
  | .int _, _ => some false
  | .str _, .str => some true
  | .str _, _ => some false
  | .ref n, t => match anyAt h n with
    | some _ => some (match t with | .list => true | _ => false)
    | none => none
  | .tup _, .tuple => some true
  | .tup _, _ => some false
  | .ty _, _ => none
theorem RelH.ty {α : List Addr} {h : Sto} {H : Hp} (R : RelH X.K α h H) {d : D} {v : V} {n : String} (r : Rep X.K α H d v) (e : tyO h d = some n) : TyX X.K H v (.type n) := by
  cases d with
  | non => cases e; cases (show v = .non from r); exact .base .non
  | bl x => cases e; cases (show v = .bl x from r); exact .base (.bl x)
  | int x => cases e; cases (show v = .int x from r); exact .base (.int x)
  | str x => cases e; cases (show v = .str x from r); exact .base (.str x)
  | ref k =>
    obtain ⟨a, ha, rfl⟩ := r
    have e : (match anyAt h k with | some _ => some "list" | none => none) = some n := e
    unfold anyAt at e
    split at e
    · rename_i xs q
      cases e
      split at q
      · rename_i ys q2
        obtain ⟨a', ha', vs, h1, h2⟩ := R.cell k _ q2
        rw [ha] at ha'; cases ha'
        exact .base (.lst h1)
      · rename_i ys q2
        obtain ⟨a', ha', vs, h1, h2⟩ := R.cell k _ q2
        rw [ha] at ha'; cases ha'
        rcases h1 with ⟨o, h1⟩ | ⟨o, its, m, h1, h3, _⟩
        · exact .base (.frz h1)
        · exact .kList h1 h3
      · cases q
    · cases e
  | tup xs =>
    cases e
    obtain ⟨a, vs, rfl, hs, rs⟩ := r
    rcases hs with (hs | ⟨o, hs⟩) | ⟨o, its, m, h1, h3, _⟩
    · exact .base (.tup hs)
    · exact .fTuple hs
    · exact .kTuple h1 h3
  | ty x => cases e
theorem kit5 : ∀ (n : String) (t : T5) (b : Bool) (d : D) (h : Sto), tyO h d = some n → isT h d t = some b → kitB n t.name = some b := by
  intro n t b d h e1 e2
  cases d with
  | non => cases e1; cases t <;> (cases e2; decide +kernel)
  | bl x => cases e1; cases t <;> (cases e2; decide +kernel)
  | int x => cases e1; cases t <;> (cases e2; decide +kernel)
  | str x => cases e1; cases t <;> (cases e2; decide +kernel)
  | ref k =>
    unfold tyO isT at *
    dsimp only at e1 e2
    cases q : anyAt h k with
    | none => rw [q] at e1; cases e1
    | some xs => rw [q] at e1 e2; cases e1; cases t <;> (cases e2; decide +kernel)
  | tup x => cases e1; cases t <;> (cases e2; decide +kernel)
  | ty x => cases e1
theorem ty_some {h : Sto} {d : D} {t : T5} {b : Bool} (e : isT h d t = some b) : ∃ n, tyO h d = some n := by
  cases d with
  | ref k =>
    unfold isT at e
    dsimp only at e
    cases q : anyAt h k with
    | none => rw [q] at e; cases e
    | some xs => exact ⟨"list", by show (match anyAt h k with | some _ => some "list" | none => none) = some "list"; rw [q]⟩
  | ty x => cases e
  | _ => exact ⟨_, rfl⟩
def isF : List D → Sto → R D
  | [x, .ty t], h => match isT h x t with
    | some b => .ok (.bl b) h
    | none => .no
  | _, _ => .no
theorem is_ok : CallN X isF (rIsi X.K) := by
  intro W σ Q α h H ds vs R rs o
  unfold isF at o
  split at o
  · rename_i x t
    obtain ⟨v, r, rfl, r1, v2, r', rfl, r2, r3⟩ := rs
    cases r3
    cases (show v2 = .ty t.name from r2)
    cases e : isT h x t with
    | none => rw [e] at o; exact o.elim
    | some b =>
      rw [e] at o
      obtain ⟨n, hn⟩ := ty_some e
      exact ⟨v, _, _, _, b, rfl, .ty _, R.ty r1 hn, kit_ty (kit5 n t b x h hn e), o α H _ .refl R rfl⟩
  · exact o.elim
/-- a written tuple of types -/
def isTs (h : Sto) (x : D) : List T5 → Option Bool
  | [] => some false
  | t :: ts => match isT h x t with
    | some true => some true
    | some false => isTs h x ts
    | none => none
theorem isTs_kit {h : Sto} {x : D} {n : String} (hn : tyO h x = some n) {K : PySem.W.Frag} : ∀ {ts : List T5} {b : Bool}, isTs h x ts = some b → PySem.W.kitAny K (.type n) (ts.map fun t => .type t.name) = some b
  | [], b, e => by cases e; exact kitAny_nil
  | t :: ts, b, e => by
    unfold isTs at e
    rw [List.map_cons]
    cases q : isT h x t with
    | none => rw [q] at e; cases e
    | some c =>
      rw [q] at e
      refine kitAny_cons (kit_ty (kit5 n t c x h hn q)) (fun hc => ?_) fun hc => ?_
      · subst hc; exact isTs_kit hn e
      · subst hc; cases e; rfl
def tyTup : List D → Option (List T5)
  | [] => some []
  | .ty t :: r => match tyTup r with
    | some ts => some (t :: ts)
    | none => none
  | _ :: _ => none
theorem tyTup_rep {K : PySem.W.Frag} {α : List Addr} {H : Hp} : ∀ {xs : List D} {ts : List T5} {vs : List V}, tyTup xs = some ts → Reps K α H xs vs → vs = ts.map fun t => V.ty t.name
  | [], _, _, e, r => by cases e; cases r; rfl
  | x :: xs, is, _, e, ⟨v, r, q, h, t⟩ => by
    subst q
    cases x with
    | ty i =>
      unfold tyTup at e
      cases e1 : tyTup xs with
      | none => rw [e1] at e; cases e
      | some js =>
        rw [e1] at e
        cases e
        cases (show v = .ty i.name from h)
        rw [tyTup_rep e1 t]
        rfl
    | _ => cases e
theorem clsVs : ∀ ts : List T5, Paired ClsV (ts.map fun t => V.ty t.name) (ts.map fun t => Value.type t.name)
  | [] => .nil
  | t :: ts => .cons (.ty _) (clsVs ts)
def mIsT (m : ME) (k : MA) : ME := fun ρ h => (m ρ h).bind fun x h1 => (k ρ h1).bind fun ts h2 => match tyTup ts with
  | some ts => if ts.length ≤ 100 ∧ ts ≠ [] then (match isTs h2 x ts with
    | some b => .ok (.bl b) h2
    | none => .no) else .no
  | none => .no
end
section
variable {X : Cx} {W : WX} {pos p : Pos}
theorem d_ty {x : Str} (t : T5) (hg : Gl X x) (hm : X.mg x = none) (hv : bootBuiltins x = some (.type t.name)) (hn : x ≠ "__name__" := by decide) (hd : (x == ("__debug__" : Str)) = false := by decide) : PE X (.Name x pos) (tD X W (mC (.ty t))) :=
  d_c (v := .ty t.name) (pe_bltn hg hm hv rfl hn hd) fun _ _ => rfl
theorem d_isT {e : Expr} {es : List Expr} {k1 tpos} {m : ME} {k : MA} (hg : Gl X "isinstance") (hm : X.mg "isinstance" = none) (ha : PE X e (tD X W m)) (hb : PA X es (tDs X W k))
    (hs : starEach (e :: [.Tuple es k1 tpos]) X.env = (false, eval e X.env) :: starEach [.Tuple es k1 tpos] X.env := by rfl) (hs2 : starEach [.Tuple es k1 tpos] X.env = (false, eval (.Tuple es k1 tpos) X.env) :: starEach [] X.env := by rfl)
    (hpl : (backTo pos (starEach [.Tuple es k1 tpos] X.env)).any (·.1) = false := by rfl) : PE X (.Call (.Name "isinstance" p) [e, .Tuple es k1 tpos] [] pos) (tD X W (mIsT m k)) := by
  refine pe_imp (pe_callB call_isiT hg hm PyProof.Rows.boot_isinstance (pa_cons ha (pa_cons (pe_tup hb) pa_nil hs2) hs) (by decide) (by decide) hs hpl) fun σ H Q x => ?_
  refine tG.step x fun α1 ρ H1 d h1 v R1 E1 r1 o1 => ?_
  refine ⟨α1, ρ, h1, R1, E1, OkG.bind o1 fun α2 H2 ds h2 vs e2 R2 r2 o2 => ?_⟩
  cases q : tyTup ds with
  | none => rw [q] at o2; exact o2.elim
  | some ts =>
    rw [q] at o2
    dsimp only at o2
    split at o2
    · rename_i hz
      cases q2 : isTs h2 d ts with
      | none => rw [q2] at o2; exact o2.elim
      | some b =>
        rw [q2] at o2
        have hv := tyTup_rep q r2
        subst hv
        refine ⟨by rw [List.length_map, sizeLine_eq]; omega, fun p hp => ?_⟩
        have hn : ∃ n, tyO h2 d = some n := by
          cases ts with
          | nil => exact absurd rfl hz.2
          | cons t ts =>
            unfold isTs at q2
            cases q3 : isT h2 d t with
            | none => rw [q3] at q2; cases q2
            | some c => exact ty_some q3
        obtain ⟨n, hn⟩ := hn
        have R3 := R2.newTup (o := .tup (ts.map fun t => V.ty t.name)) hp
        refine ⟨v, p, _, _, _, b, rfl, upd_same, clsVs ts, R3.ty (Rep.ext (Ext.newTup hp) d (Rep.ext e2 d r1)) hn, isTs_kit hn q2, ?_⟩
        exact o2 α2 _ _ (Ext.newTup hp) R3 rfl
    · exact o2.elim

/-! ### len(set(..)) of ints -/
def dedup (ns : List Int) : List Int := ns.foldl PyProof.Rows.step_dedup []
theorem firstMet_dedup (ns : List Int) : PyProof.Rows.firstMet (fun i => ns.getD i 0) ns.length = dedup ns := by
  unfold PyProof.Rows.firstMet dedup
  congr 1
  refine List.ext_getElem (by simp) fun i h1 h2 => ?_
  simp at h1
  simp [List.getD_eq_getElem?_getD, List.getElem?_eq_getElem h1]
def mLenSet (m : ME) : ME := fun ρ h => (m ρ h).bind fun d h1 => match d with
  | .ref n => match anyAt h1 n with
    | some xs => match allInt xs with
      | some ns => if ns.length ≤ 4000 then .ok (.int (dedup ns).length) h1 else .no
      | none => .no
    | none => .no
  | _ => .no
def tLenSetA (K : PySem.W.Frag) (ta : TE) : TE := fun σ H Q => ta σ H fun x H1 => ∃ (l : Addr) (ns : List Int), x = .ref l ∧ SqL K H1 l (ns.map V.int) ∧ ns.length ≤ 4000 ∧ Q (.int (dedup ns).length) H1
theorem pe_lenSetA {a : Expr} {ta : TE} {p p2 q pos : Pos} (hg : Gl X "len") (hm : X.mg "len" = none) (hg2 : Gl X "set") (hm2 : X.mg "set" = none) (ha : PE X a ta) (hc : X.calm = true := by rfl)
    (na : starEach [a] X.env = (false, eval a X.env) :: starEach [] X.env := by rfl) : PE X (.Call (.Name "len" p) [.Call (.Name "set" p2) [a] [] q] [] pos) (tLenSetA X.K ta) := by
  refine ⟨fun pins s σ H Q I h => ?_⟩
  refine PyProof.Rows.Call_ (ld_blt I hg hm PySem.boot_len ?_)
  refine PyProof.Rows.callWith_builtin1 (PyProof.Rows.args_cons ?_ rfl) rfl rfl
  refine PyProof.Rows.Call_ (ld_blt I hg2 hm2 PyProof.Rows.boot_set ?_)
  refine PyProof.Rows.callWith_type1 (PyProof.Rows.args_cons (thn (ha.run pins s σ H _ I h) fun v s1 ⟨x, H1, I1, r1, q1⟩ => PyProof.Rows.args_nil ?_) na) na rfl
  obtain ⟨l, ns, rfl, hq, hl, q1⟩ := q1
  cases r1
  obtain ⟨its, r, pl, hz⟩ := I1.list hq
  have hlen : its.toArray.size = ns.length := by rw [List.size_toArray, ← r.length, List.length_map]
  refine PySem.call_set_list (I1.ok.hd hc) pl.isList (by simpa using RZ.intsAre_vals r) (by rw [hlen]; unfold scanBound; omega) fun h' tk hS hk => ?_
  refine PyProof.Rows.args_nil ?_
  rw [hlen, firstMet_dedup] at hS
  obtain ⟨o, es, ep, t, ho, hex, hd, _, _, _, hf, hn⟩ := hS
  have hdl : (dedup ns).length ≤ ns.length := by rw [← firstMet_dedup]; exact PyProof.Rows.firstMet_length_le _ _
  have I2 : Inv X pins σ H1 { s1 with heap := h', toks := tk } := I1.kept fun b o e => hk b o (Heap.lt_size e) e
  exact PySem.call_len_set ho hex hd hf (by rw [hn] <;> omega) ⟨.int (dedup ns).length, H1, I2.tok _, ⟨_, by rw [hn]⟩, q1⟩
theorem d_lenSet {a : Expr} {m : ME} {p p2 q pos : Pos} (hg : Gl X "len") (hm : X.mg "len" = none) (hg2 : Gl X "set") (hm2 : X.mg "set" = none) (ha : PE X a (tD X W m)) (hc : X.calm = true := by rfl)
    (na : starEach [a] X.env = (false, eval a X.env) :: starEach [] X.env := by rfl) : PE X (.Call (.Name "len" p) [.Call (.Name "set" p2) [a] [] q] [] pos) (tD X W (mLenSet m)) := by
  refine pe_imp (pe_lenSetA hg hm hg2 hm2 ha hc na) fun σ H Q x => ?_
  refine tG.step x fun α1 ρ H1 d h1 v R1 E1 r1 o1 => ?_
  cases d with
  | ref n =>
    dsimp only at o1
    cases e1 : anyAt h1 n with
    | none => rw [e1] at o1; exact o1.elim
    | some xs =>
      rw [e1] at o1
      dsimp only at o1
      cases e2 : allInt xs with
      | none => rw [e2] at o1; exact o1.elim
      | some ns =>
        rw [e2] at o1
        dsimp only at o1
        split at o1
        · rename_i hz
          obtain ⟨a, vs, _, rfl, hs, rs⟩ := R1.any e1 r1
          have := allInt_rep e2 rs
          subst this
          exact ⟨a, ns, rfl, hs, hz, o1 α1 H1 _ .refl R1 rfl⟩
        · exact o1.elim
  | _ => exact o1.elim
end
end Ml
/-! The mill, part 5b: enumerate(a tuple). -/
namespace PySem
namespace Mx
theorem en_new (v : Addr) (items : Array Value) :
    Meets (Builtin.«enumerate.__new__» ⟨[.type "enumerate", .ref v], []⟩) (fun _ R s => s.heap.IsTuple v items ∧
      R (.ok (.ret (.ref (s.heap.push { cls := .type "tuple_iterator", data := .fields #[.ref v, .int 0 0] }).objs.size)))
        { s with heap := (s.heap.push { cls := .type "tuple_iterator", data := .fields #[.ref v, .int 0 0] }).push { cls := .type "enumerate", data := .fields #[.none, .bool false, .ref s.heap.objs.size, rawInt 0, .none, .none] } }) :=
  .of_wp fun prog w A R s hh => by
    obtain ⟨hp, g, d, tk, os⟩ := s
    obtain ⟨tup, hh⟩ := hh
    have hsub := sub_enumerate
    have go : ∀ {A' : Around} {E : Value → Shared → Prop} {Q : Value → Shared → Prop}, Q (.ref hp.objs.size) ⟨hp.push { cls := .type "tuple_iterator", data := .fields #[.ref v, .int 0 0] }, g, d, tk, os⟩ → wpAny (model prog w) A' (pyIter (.ref v)) Q E ⟨hp, g, d, tk, os⟩ := fun q => wpAny_pyIter_tuple tup q
    wp_walk using go
    refine wpAny_stack_any fun st => wpAny_pure ?_
    split
    · rename_i c _ _ _ _ _
      cases (c == Value.type "enumerate") <;> (wp_walk using go; exact ⟨_, rfl, hh⟩)
    · wp_walk using go
      exact ⟨_, rfl, hh⟩
section
variable {prog : Program} {w : World} {A : Around} {E : Value → Shared → Prop} {s : Shared}
theorem en_call {v : Addr} {items : Array Value} {Q : Value → Shared → Prop} (tup : s.heap.IsTuple v items)
    (k : ∀ h', IsEnum h' (s.heap.objs.size + 1) s.heap.objs.size 0 .none → h'.IsTupleIter s.heap.objs.size v 0 → (∀ b o, s.heap.get? b = some o → h'.get? b = some o) → Q (.ref (s.heap.objs.size + 1)) { s with heap := h' }) :
    wpAny (model prog w) A (call (.type "enumerate") [.ref v]) Q E s := by
  refine callType_new F.called_enumerate (by decide) (F.typeCall_enumerate_1 _) (F.newCall_enumerate_1 _) (fun obj => F.args_object_init_2 obj _) F.entry_enumerate_new (en_new v items) ⟨tup, ?_⟩
  have sz : (s.heap.push { cls := .type "tuple_iterator", data := .fields #[.ref v, .int 0 0] }).objs.size = s.heap.objs.size + 1 := Heap.size_push ..
  show _ ∧ _
  rw [sz]
  have en : IsEnum ((s.heap.push { cls := .type "tuple_iterator", data := .fields #[.ref v, .int 0 0] }).push { cls := .type "enumerate", data := .fields #[.none, .bool false, .ref s.heap.objs.size, rawInt 0, .none, .none] }) (s.heap.objs.size + 1) s.heap.objs.size 0 .none := by
    have z := Heap.get?_push_size (s.heap.push { cls := .type "tuple_iterator", data := .fields #[.ref v, .int 0 0] }) (o := { cls := .type "enumerate", data := .fields #[.none, .bool false, .ref s.heap.objs.size, rawInt 0, .none, .none] }) rfl
    rw [sz] at z
    exact z
  exact ⟨⟨_, en, rfl⟩, k _ en ⟨_, Heap.get?_push_of_some _ (Heap.get?_push_size _ rfl), rfl, rfl⟩ fun b o x => Heap.get?_push_of_some _ (Heap.get?_push_of_some _ x)⟩
end
end Mx
end PySem
namespace Ml
open PySem PySem.Spec L2
/-- the tuple at a, each item in a new pair -/
def ItE (K : PySem.W.Frag) (a : Addr) : It :=
  ⟨fun i H => ∃ (xs : List V) (x : V), SqT K H a xs ∧ xs[i]? = some x, fun i H v H' => ∃ T x, v = .ref T ∧ H T = none ∧ H' = upd H T (.tup [.int (i : Nat), x]) ∧ ∀ xs, SqT K H a xs → xs[i]? = some x, fun i H => ∃ xs : List V, SqT K H a xs ∧ xs.length = i⟩
theorem turn_en {P : Program} {w : World} {K : PySem.W.Frag} {elts : List Expr} {kk : Nat} {tpos : Pos} (a e it : Addr) :
    Turn P w K (.Tuple elts kk tpos) (ItE K a) [e, it] e (fun i h => (∃ old, IsEnum h e it ((i : Nat) : Int) old) ∧ h.IsTupleIter it a i ∧ e ≠ it ∧ a ≠ it ∧ e ≠ a) where
  mem := List.mem_cons_self ..
  obj := fun i h st b hb => by
    obtain ⟨⟨old, he⟩, ⟨o, ho, hc, hd⟩, _⟩ := st
    rcases List.mem_cons.mp hb with rfl | hb
    · exact ⟨_, he, fun v q => nomatch q⟩
    · cases List.mem_singleton.mp hb
      exact ⟨o, ho, fun v q => by rw [hd] at q; cases q⟩
  keep := fun i h h' st k => ⟨st.1.imp fun old he => k e (List.mem_cons_self ..) _ he, st.2.1.at fun o q => k it (by simp) o q, st.2.2⟩
  item := by
    intro X hP hw hK hc i pins s σ H E I hf st hg
    subst hP hw hK
    obtain ⟨⟨old, he⟩, hit, hne, hai, hea⟩ := st
    obtain ⟨xs, x, hq, hx⟩ := hg
    obtain ⟨its, rv, p, hz⟩ := I.tuple hq
    obtain ⟨u, hu, ru⟩ := rv.get hx
    have le : e < s.heap.objs.size := Heap.lt_size he
    have li : it < s.heap.objs.size := by obtain ⟨_, q, _⟩ := hit; exact Heap.lt_size q
    have lx : i < its.toArray.size := by
      have := (List.getElem?_eq_some_iff.mp hu).1
      simpa using this
    refine wpAny_pyNext_enum_itemD (Draws.tuple (show X.A.in1.handled = none from I.ok.hd hc) it a hai its.toArray) he ⟨hit, p⟩ lx hne (by simp [hne, hea]) fun y h' tk hy ho hst' hT hsz hk => ?_
    have ey : y = u := by
      have z : its[i]? = some y := by simpa using hy
      rw [hu] at z; exact (Option.some.inj z).symm
    subst ey
    refine ⟨_, rfl, wpAny_letOwnedTupleGo_enum (s := { s with heap := h', toks := tk + 1 }) ho fun h2 he2 sb => ?_⟩
    have hT2 : h2.get? s.heap.objs.size = some { cls := .type "tuple", data := .seq #[.int i tk, y] } := (sb.2 _ (Nat.ne_of_gt le)).trans hT
    have ok2 : ObjOk X.prog X.w (upd H s.heap.objs.size (.tup [.int (i : Nat), x])) h2 s.heap.objs.size (.tup [.int (i : Nat), x]) := ⟨by show 2 ≤ sizeLine; decide, [.int i tk, y], .cons ⟨_, rfl⟩ (.cons ru .nil), ⟨_, hT2, rfl, _, rfl⟩⟩
    have I1 : L2.Inv X pins σ (upd H s.heap.objs.size (.tup [.int (i : Nat), x])) { s with heap := h2, toks := tk + 1 } :=
      I.turnedNew (ch := [e, it]) (fun b ob hb q => (sb.2 b fun z => hb (z ▸ List.mem_cons_self ..)).trans (hk b ob (fun z => hb (z ▸ List.mem_cons_self ..)) (fun z => hb (by simp [z])) q)) hf (Nat.le_refl _) ok2
    refine ⟨.ref s.heap.objs.size, _, I1, rfl, ⟨_, x, rfl, I.hok.fresh (Nat.le_refl _), rfl, fun ys hy' => by rw [I.tuple_inj hy' hq]; exact hx⟩, ⟨⟨y, ?_⟩, hst'.1.at fun o q => (sb.2 it (Ne.symm hne)).trans q, hne, hai, hea⟩, fun b hb => ?_⟩
    · rw [show ((i + 1 : Nat) : Int) = (i : Int) + 1 from by omega]; exact he2
    · have hlt : b < s.heap.objs.size := by
        rcases List.mem_cons.mp hb with rfl | hb
        · exact le
        · cases List.mem_singleton.mp hb; exact li
      rw [upd_ne (Nat.ne_of_lt hlt)]
      exact (hf b hb).1
  done := by
    intro X hP hw hK hc i pins s σ H E I hf st hg
    subst hP hw hK
    obtain ⟨⟨old, he⟩, hit, hne, hai, hea⟩ := st
    obtain ⟨xs, hq, hx⟩ := hg
    obtain ⟨its, rv, p, hz⟩ := I.tuple hq
    obtain ⟨f0, f1, f2, f3, f4, f5⟩ := hf it (by simp)
    have hl : i = its.toArray.size := by rw [← hx]; simpa using rv.length
    subst hl
    exact wpAny_pyNext_enum_endD (Draws.tuple (show X.A.in1.handled = none from I.ok.hd hc) it a hai its.toArray) he ⟨hit, p⟩ fun h' eb => ⟨rfl, I.turned (t' := s.toks) (fun b o hb q => eb b o hb q) f0 f1 f3 f4 f5⟩
  self := fun A i s Q E st h => let ⟨⟨_, he⟩, _⟩ := st; wpAny_pyIter_enum he h
/-- enumerate(a list | a tuple) -/
def iEnA (K : PySem.W.Frag) (ta : TA) : TI := fun σ H R => ta σ H fun vs H1 => ∃ a, vs = [.ref a] ∧ (((∃ xs, SqL K H1 a xs) ∧ R (Ite K a) H1) ∨ ((∃ xs, SqT K H1 a xs) ∧ R (ItE K a) H1))
theorem pi_enA {X : Cx} {e : Expr} {ta : TA} {p pos tpos : Pos} {elts : List Expr} {kk : Nat} (hg : Gl X "enumerate") (hm : X.mg "enumerate" = none) (ha : PA X [e] ta) (hs : starEach [e] X.env = [(false, eval e X.env)] := by rfl) :
    PI X (.Tuple elts kk tpos) (.Call (.Name "enumerate" p) [e] [] pos) (iEnA X.K ta) := by
  refine ⟨fun pins s σ H R I h => ?_⟩
  refine PyProof.Rows.Call_ (ld_blt I hg hm PyProof.Rows.boot_enumerate (PyProof.Rows.callWith_type1 (thn (ha.run pos pins s σ H _ I h) fun us s1 ⟨vs, H1, I1, r1, a, ex, q⟩ => ?_) hs rfl))
  subst ex
  cases r1 with
  | cons r rr =>
    cases rr
    cases r
    have two : ∀ b ∈ [s1.heap.objs.size + 1, s1.heap.objs.size], s1.heap.objs.size ≤ b := fun b hb => by
      rcases List.mem_cons.mp hb with rfl | hb
      · exact Nat.le_succ _
      · cases List.mem_singleton.mp hb; exact Nat.le_refl _
    rcases q with ⟨⟨xs, hq⟩, q⟩ | ⟨⟨xs, hq⟩, q⟩
    · obtain ⟨its, rv, p', hz⟩ := I1.list hq
      refine call_enumerate_list p'.isList fun h' he hit hsz hk => wpAny_pyIter_enum he ?_
      have I2 : L2.Inv X pins σ H1 { s1 with heap := h' } := I1.kept (t' := s1.toks) hk
      exact ⟨s1.heap.objs.size + 1, [s1.heap.objs.size + 1, s1.heap.objs.size], _, _, H1, rfl, I2, turn_enum a (s1.heap.objs.size + 1) s1.heap.objs.size, ⟨⟨.none, he⟩, hit, Nat.succ_ne_self _⟩, fun b hb => I1.fpOk (two b hb) (I1.hok.fresh (two b hb)), q⟩
    · obtain ⟨its, rv, p', hz⟩ := I1.tuple hq
      have la : a < s1.heap.objs.size := by obtain ⟨_, q, _⟩ := p'; exact Heap.lt_size q
      refine Mx.en_call (items := its.toArray) p' fun h' he hit hk => wpAny_pyIter_enum he ?_
      have I2 : L2.Inv X pins σ H1 { s1 with heap := h' } := I1.kept (t' := s1.toks) hk
      exact ⟨s1.heap.objs.size + 1, [s1.heap.objs.size + 1, s1.heap.objs.size], _, _, H1, rfl, I2, turn_en a (s1.heap.objs.size + 1) s1.heap.objs.size, ⟨⟨.none, he⟩, hit, Nat.succ_ne_self _, Nat.ne_of_lt la, Nat.ne_of_gt (Nat.lt_succ_of_lt la)⟩, fun b hb => I1.fpOk (two b hb) (I1.hok.fresh (two b hb)), q⟩
end Ml
/-! The mill, part 6: targets, walks, for, list comprehensions. -/
namespace Ml
open PySem PySem.Spec L2

/-! ### targets of a loop -/
inductive Tg where
  | one (i : Nat) | many (is : List Nat)
def setAll : List Nat → List D → Sl → Option Sl
  | [], [], ρ => some ρ
  | i :: is, d :: ds, ρ => setAll is ds (ρ.set i (some d))
  | _, _, _ => none
def setTg : Tg → D → Sl → Sto → Option Sl
  | .one i, d, ρ, _ => some (ρ.set i (some d))
  | .many is, .tup ds, ρ, _ => setAll is ds ρ
  | .many is, .ref n, ρ, h => match anyAt h n with
    | some ds => setAll is ds ρ
    | none => none
  | .many _, _, _, _ => none
def gAll : List Nat → TGs
  | [] => gNil
  | i :: is => gCons (gName i) (gAll is)
def gTg (K : PySem.W.Frag) : Tg → TG
  | .one i => gName i
  | .many is => fun v σ H Q => gTup K is.length (gAll is) v σ H Q ∨ gLst K is.length (gAll is) v σ H Q
theorem pg_or {X : Cx} {e : Expr} {t t' : TG} (h : PG X e t) (h' : PG X e t') : PG X e (fun v σ H Q => t v σ H Q ∨ t' v σ H Q) :=
  ⟨fun pins s σ H v u Q I r q => q.elim (fun q => h.run pins s σ H v u Q I r q) fun q => h'.run pins s σ H v u Q I r q⟩
section
variable {X : Cx} {pos : Pos}
theorem g_one (i : Nat) {x : Str} (hN : X.N.Nodup) (hi : X.N[i]? = some x := by rfl) (hx : Loc X.env.scope x := by first | exact Or.inl rfl | exact Or.inr rfl) (hf : X.fn x = true ∨ X.env.scope.names.lookup x = some .local := by first | exact .inl rfl | exact .inr rfl) : PG X (.Name x pos) (gTg X.K (.one i)) := pg_name hN hi hx hf
theorem gs_nil : PGs X [] (gAll []) := pgs_nil
theorem gs_cons (i : Nat) {x : Str} {es : List Expr} {is : List Nat} (hN : X.N.Nodup) (r : PGs X es (gAll is)) (hi : X.N[i]? = some x := by rfl) (hx : Loc X.env.scope x := by first | exact Or.inl rfl | exact Or.inr rfl) (hf : X.fn x = true ∨ X.env.scope.names.lookup x = some .local := by first | exact .inl rfl | exact .inr rfl)
    (hs : (assignEach (.Name x pos :: es) X.env).map (·.2) = assign (.Name x pos) X.env :: (assignEach es X.env).map (·.2) := by rfl) : PGs X (.Name x pos :: es) (gAll (i :: is)) := pgs_cons (pg_name hN hi hx hf) r hs
theorem g_many {es : List Expr} {k : Nat} {is : List Nat} (hc : X.calm = true) (h : PGs X es (gAll is)) (hn : (assignEach es X.env).length = is.length := by rfl) (hst : (assignEach es X.env).findIdx? (·.1) = none := by rfl) : PG X (.Tuple es k pos) (gTg X.K (.many is)) :=
  pg_or (pg_tup hc h hn hst) (pg_lst hc h hn hst)
end
/-- the very slots behind a target -/
def stAll : List Nat → List V → L2.St → L2.St
  | i :: is, v :: vs, σ => stAll is vs (σ.set i (some v))
  | _, _, σ => σ
theorem gAll_of {K : PySem.W.Frag} {α : List Addr} {H : Hp} : ∀ {is : List Nat} {ds : List D} {vs : List V} {ρ ρ' : Sl} {σ : L2.St} {Q : L2.St → Hp → Prop}, setAll is ds ρ = some ρ' → Reps K α H ds vs → RelE K α H ρ σ →
    (RelE K α H ρ' (stAll is vs σ) → Q (stAll is vs σ) H) → gAll is vs σ H Q
  | [], [], _, ρ, ρ', σ, Q, e, r, E, q => by cases r; cases e; exact ⟨rfl, q E⟩
  | [], _ :: _, _, _, _, _, _, e, _, _, _ => by cases e
  | _ :: _, [], _, _, _, _, _, e, _, _, _ => by cases e
  | i :: is, d :: ds, _, ρ, ρ', σ, Q, e, ⟨v, vs, rfl, r1, r2⟩, E, q => by
    exact ⟨v, vs, rfl, gAll_of (ρ := ρ.set i (some d)) e r2 (E.set i r1) q⟩
/-- behind the target: the slots, told both ways -/
def stTg : Tg → V → List V → L2.St → L2.St
  | .one i, v, _, σ => σ.set i (some v)
  | .many is, _, vs, σ => stAll is vs σ
theorem gTg_of {K : PySem.W.Frag} {α : List Addr} {h : Sto} {H : Hp} {t : Tg} {d : D} {v : V} {ρ ρ' : Sl} {σ : L2.St} {Q : L2.St → Hp → Prop} (R : RelH K α h H) (e : setTg t d ρ h = some ρ') (r : Rep K α H d v) (E : RelE K α H ρ σ)
    (q : ∀ vs, (∀ is, t = .many is → vs.length = is.length) → RelE K α H ρ' (stTg t v vs σ) → Q (stTg t v vs σ) H) : gTg K t v σ H Q := by
  have len : ∀ {is : List Nat} {ds : List D} {ρ ρ' : Sl}, setAll is ds ρ = some ρ' → ds.length = is.length := by
    intro is
    induction is with
    | nil => intro ds ρ ρ' e; cases ds with | nil => rfl | cons _ _ => cases e
    | cons i is ih => intro ds ρ ρ' e; cases ds with | nil => cases e | cons d ds => simp [ih (show setAll is ds _ = some ρ' from e)]
  cases t with
  | one i =>
    cases e
    exact q [] (fun _ z => nomatch z) (E.set i r)
  | many is =>
    cases d with
    | tup ds =>
      obtain ⟨a, vs, rfl, hs, rs⟩ := r
      have hl := len (show setAll is ds ρ = some ρ' from e)
      refine .inl ⟨a, vs, rfl, hs, by rw [Reps.length rs, hl], gAll_of (show setAll is ds ρ = some ρ' from e) rs E fun E' => q vs (fun is' z => ?_) E'⟩
      cases z; rw [Reps.length rs, hl]
    | ref n =>
      have e : (match anyAt h n with | some ds => setAll is ds ρ | none => none) = some ρ' := e
      cases e1 : anyAt h n with
      | none => rw [e1] at e; cases e
      | some ds =>
        rw [e1] at e
        obtain ⟨a, vs, _, rfl, hs, rs⟩ := R.any e1 r
        have hl := len e
        refine .inr ⟨a, vs, rfl, hs, by rw [Reps.length rs, hl], gAll_of e rs E fun E' => q vs (fun is' z => ?_) E'⟩
        cases z; rw [Reps.length rs, hl]
    | _ => cases e

/-! ### walks -/
inductive Wk where
  | seq (n : Nat) | tup (xs : List D) | rng (lo : Int) (n : Nat) | enS (n : Nat) | zipS (n m : Nat) | zipT (xs ys : List D) | revS (n len : Nat) | revT (xs : List D) | enT (xs : List D)
/-- at a turn: stuck, the end, an item -/
def Wk.item : Wk → Sto → Nat → Option (Option D)
  | .seq n, h, i => match anyAt h n with
    | some xs => some xs[i]?
    | none => none
  | .tup xs, _, i => some xs[i]?
  | .rng lo n, _, i => some (if i < n then some (.int (lo + i)) else none)
  | .enS n, h, i => match anyAt h n with
    | some xs => match xs[i]? with
      | some x => some (some (.tup [.int i, x]))
      | none => some none
    | none => none
  | .zipS n m, h, i => match anyAt h n, anyAt h m with
    | some xs, some ys => match xs[i]?, ys[i]? with
      | some x, some y => some (some (.tup [x, y]))
      | _, _ => some none
    | _, _ => none
  | .zipT xs ys, _, i => match xs[i]?, ys[i]? with
    | some x, some y => some (some (.tup [x, y]))
    | _, _ => some none
  | .revS n len, h, i => match anyAt h n with
    | some xs => if xs.length = len then (if i < len then (match xs[len - 1 - i]? with
      | some x => some (some x)
      | none => none) else (if i = len then some none else none)) else none
    | none => none
  | .revT xs, _, i => if i < xs.length then (match xs[xs.length - 1 - i]? with
      | some x => some (some x)
      | none => none) else (if i = xs.length then some none else none)
  | .enT xs, _, i => match xs[i]? with
    | some x => some (some (.tup [.int i, x]))
    | none => if xs.length = i then some none else none
/-- turns at most -/
def Wk.len : Wk → Sto → Nat
  | .seq n, h => ((anyAt h n).getD []).length
  | .tup xs, _ => xs.length
  | .rng _ n, _ => n
  | .enS n, h => ((anyAt h n).getD []).length
  | .zipS n _, h => ((anyAt h n).getD []).length
  | .zipT xs _, _ => xs.length
  | .revS _ len, _ => len
  | .revT xs, _ => xs.length
  | .enT xs, _ => xs.length
/-- lo, lo + c, .. : n of them -/
def stepD (lo c : Int) (n : Nat) : List D := (List.range n).map fun (i : Nat) => .int (lo + (i : Nat) * c)
theorem stepD_at {lo c : Int} {n i : Nat} : (stepD lo c n)[i]? = if i < n then some (.int (lo + (i : Nat) * c)) else none := by
  unfold stepD
  by_cases k : i < n
  · simp [k]
  · simp [k]
def WkOk (K : PySem.W.Frag) (α : List Addr) (H : Hp) : Wk → It → Prop
  | .seq n, J => ∃ a, α[n]? = some a ∧ J = Itl K a
  | .tup xs, J => (∃ a vs, SqT K H a vs ∧ Reps K α H xs vs ∧ J = Itt K a) ∨ ∃ lo c n, xs = stepD lo c n ∧ J = Itc lo c n
  | .rng lo n, J => J = Itr lo n
  | .enS n, J => ∃ a, α[n]? = some a ∧ J = Ite K a
  | .zipS n m, J => ∃ a b, α[n]? = some a ∧ α[m]? = some b ∧ J = Itz K a b
  | .zipT xs ys, J => ∃ a b vs us, SqT K H a vs ∧ Reps K α H xs vs ∧ SqT K H b us ∧ Reps K α H ys us ∧ J = RZ.ItzT K a b
  | .revS n len, J => ∃ a, α[n]? = some a ∧ J = Itv K a len
  | .revT xs, J => ∃ a vs, SqT K H a vs ∧ Reps K α H xs vs ∧ J = RT.ItvT K a xs.length
  | .enT xs, J => ∃ a vs, SqT K H a vs ∧ Reps K α H xs vs ∧ J = ItE K a
theorem WkOk.ext {K : PySem.W.Frag} {α α' : List Addr} {H H' : Hp} (e : Ext K α H α' H') {w : Wk} {J : It} (x : WkOk K α H w J) : WkOk K α' H' w J := by
  cases w with
  | seq n => obtain ⟨a, h, q⟩ := x; exact ⟨a, e.at h, q⟩
  | tup xs =>
    rcases x with ⟨a, vs, h, r, q⟩ | x
    · exact .inl ⟨a, vs, e.tup _ _ h, Reps.ext e _ r, q⟩
    · exact .inr x
  | rng lo n => exact x
  | enS n => obtain ⟨a, h, q⟩ := x; exact ⟨a, e.at h, q⟩
  | zipS n m => obtain ⟨a, b, h, h', q⟩ := x; exact ⟨a, b, e.at h, e.at h', q⟩
  | zipT xs ys => obtain ⟨a, b, vs, us, h, r, h', r', q⟩ := x; exact ⟨a, b, vs, us, e.tup _ _ h, Reps.ext e _ r, e.tup _ _ h', Reps.ext e _ r', q⟩
  | revS n len => obtain ⟨a, h, q⟩ := x; exact ⟨a, e.at h, q⟩
  | revT xs => obtain ⟨a, vs, h, r, q⟩ := x; exact ⟨a, vs, e.tup _ _ h, Reps.ext e _ r, q⟩
  | enT xs => obtain ⟨a, vs, h, r, q⟩ := x; exact ⟨a, vs, e.tup _ _ h, Reps.ext e _ r, q⟩
theorem RelH.anyA {K : PySem.W.Frag} {α : List Addr} {h : Sto} {H : Hp} {n : Nat} {xs : List D} {a : Addr} (R : RelH K α h H) (e : anyAt h n = some xs) (ha : α[n]? = some a) : ∃ vs, SqL K H a vs ∧ Reps K α H xs vs := by
  obtain ⟨a', vs, h1, h2, h3, h4⟩ := R.any e (v := .ref a) ⟨a, ha, rfl⟩
  cases h2
  exact ⟨vs, h3, h4⟩
theorem Reps.none {K : PySem.W.Frag} {α : List Addr} {H : Hp} {xs : List D} {vs : List V} {i : Nat} (r : Reps K α H xs vs) (e : xs[i]? = none) : vs.length ≤ i := by
  rw [Reps.length r]
  exact List.getElem?_eq_none_iff.mp e
/-- the end -/
theorem WkOk.stop {K : PySem.W.Frag} {α : List Addr} {h : Sto} {H : Hp} {w : Wk} {J : It} {i : Nat} (R : RelH K α h H) (x : WkOk K α H w J) (e : w.item h i = some none) : J.stop i H := by
  cases w with
  | seq n =>
    obtain ⟨a, ha, rfl⟩ := x
    have e : (match anyAt h n with | some xs => some xs[i]? | none => none) = some none := e
    cases e1 : anyAt h n with
    | none => rw [e1] at e; cases e
    | some xs =>
      rw [e1] at e
      obtain ⟨vs, h1, h2⟩ := R.anyA e1 ha
      exact ⟨vs, h1, Reps.none h2 (Option.some.inj e)⟩
  | tup xs =>
    rcases x with ⟨a, vs, h1, h2, rfl⟩ | ⟨lo, c, n, rfl, rfl⟩
    · exact ⟨vs, h1, Reps.none h2 (Option.some.inj e)⟩
    · have e : (stepD lo c n)[i]? = none := Option.some.inj e
      rw [stepD_at] at e
      split at e
      · cases e
      · rename_i k; show n ≤ i; omega
  | rng lo n =>
    cases (show J = Itr lo n from x)
    have e : (if i < n then some (D.int (lo + i)) else none) = none := Option.some.inj e
    split at e
    · cases e
    · rename_i c; show n ≤ i; omega
  | enS n =>
    obtain ⟨a, ha, rfl⟩ := x
    unfold Wk.item at e
    dsimp only at e
    cases e1 : anyAt h n with
    | none => rw [e1] at e; cases e
    | some xs =>
      rw [e1] at e
      dsimp only at e
      cases e2 : xs[i]? with
      | some y => rw [e2] at e; cases e
      | none =>
        obtain ⟨vs, h1, h2⟩ := R.anyA e1 ha
        exact ⟨vs, h1, Reps.none h2 e2⟩
  | zipS n m =>
    obtain ⟨a, b, ha, hb, rfl⟩ := x
    unfold Wk.item at e
    dsimp only at e
    cases e1 : anyAt h n with
    | none => rw [e1] at e; cases e
    | some xs =>
      cases e2 : anyAt h m with
      | none => rw [e1, e2] at e; cases e
      | some ys =>
        rw [e1, e2] at e
        dsimp only at e
        obtain ⟨vs, h1, h2⟩ := R.anyA e1 ha
        obtain ⟨us, h3, h4⟩ := R.anyA e2 hb
        refine ⟨vs, us, h1, h3, ?_⟩
        cases e3 : xs[i]? with
        | none => exact .inl (Reps.none h2 e3)
        | some x =>
          cases e4 : ys[i]? with
          | none => exact .inr (Reps.none h4 e4)
          | some y => rw [e3, e4] at e; cases e
  | zipT xs ys =>
    obtain ⟨a, b, vs, us, h1, h2, h3, h4, rfl⟩ := x
    unfold Wk.item at e
    dsimp only at e
    refine ⟨vs, us, h1, h3, ?_⟩
    cases e3 : xs[i]? with
    | none => exact .inl (Reps.none h2 e3)
    | some x =>
      cases e4 : ys[i]? with
      | none => exact .inr (Reps.none h4 e4)
      | some y => rw [e3, e4] at e; cases e
  | revS n len =>
    obtain ⟨a, ha, rfl⟩ := x
    unfold Wk.item at e
    dsimp only at e
    split at e
    · split at e
      · split at e
        · split at e
          · cases e
          · cases e
        · split at e
          · rename_i c; exact (show len ≤ i by omega)
          · cases e
      · cases e
    · cases e
  | revT xs =>
    obtain ⟨a, vs, h1, h2, rfl⟩ := x
    unfold Wk.item at e
    dsimp only at e
    split at e
    · split at e
      · cases e
      · cases e
    · split at e
      · rename_i c; exact (show xs.length ≤ i by omega)
      · cases e
  | enT xs =>
    obtain ⟨a, vs, h1, h2, rfl⟩ := x
    unfold Wk.item at e
    dsimp only at e
    split at e
    · cases e
    · split at e
      · rename_i c; exact ⟨vs, h1, by rw [Reps.length h2, c]⟩
      · cases e
/-- an item -/
theorem WkOk.go {K : PySem.W.Frag} {α : List Addr} {h : Sto} {H : Hp} {w : Wk} {J : It} {i : Nat} {d : D} (R : RelH K α h H) (x : WkOk K α H w J) (e : w.item h i = some (some d)) :
    J.go i H ∧ ∀ v H', J.yld i H v H' → Ext K α H α H' ∧ RelH K α h H' ∧ Rep K α H' d v := by
  cases w with
  | seq n =>
    obtain ⟨a, ha, rfl⟩ := x
    have e : (match anyAt h n with | some xs => some xs[i]? | none => none) = some (some d) := e
    cases e1 : anyAt h n with
    | none => rw [e1] at e; cases e
    | some xs =>
      rw [e1] at e
      have e := Option.some.inj e
      obtain ⟨vs, h1, h2⟩ := R.anyA e1 ha
      obtain ⟨v, h3, h4⟩ := Reps.get h2 e
      refine ⟨⟨vs, v, h1, h3⟩, fun w' H' y => ?_⟩
      obtain ⟨rfl, y⟩ := y
      have := y vs h1
      rw [h3] at this; cases this
      exact ⟨.refl, R, h4⟩
  | tup xs =>
    rcases x with ⟨a, vs, h1, h2, rfl⟩ | ⟨lo, c, n, rfl, rfl⟩
    · obtain ⟨v, h3, h4⟩ := Reps.get h2 (Option.some.inj e)
      refine ⟨⟨vs, v, h1, h3⟩, fun w' H' y => ?_⟩
      obtain ⟨rfl, y⟩ := y
      have := y vs h1
      rw [h3] at this; cases this
      exact ⟨.refl, R, h4⟩
    · have e : (stepD lo c n)[i]? = some d := Option.some.inj e
      rw [stepD_at] at e
      split at e
      · rename_i k
        cases e
        refine ⟨k, fun w' H' y => ?_⟩
        obtain ⟨rfl, rfl⟩ := y
        exact ⟨.refl, R, rfl⟩
      · cases e
  | rng lo n =>
    cases (show J = Itr lo n from x)
    have e : (if i < n then some (D.int (lo + i)) else none) = some d := Option.some.inj e
    split at e
    · rename_i c
      cases e
      refine ⟨c, fun w' H' y => ?_⟩
      obtain ⟨rfl, rfl⟩ := y
      exact ⟨.refl, R, rfl⟩
    · cases e
  | enS n =>
    obtain ⟨a, ha, rfl⟩ := x
    unfold Wk.item at e
    dsimp only at e
    cases e1 : anyAt h n with
    | none => rw [e1] at e; cases e
    | some xs =>
      rw [e1] at e
      dsimp only at e
      cases e2 : xs[i]? with
      | none => rw [e2] at e; cases e
      | some y =>
        rw [e2] at e
        cases e
        obtain ⟨vs, h1, h2⟩ := R.anyA e1 ha
        obtain ⟨v, h3, h4⟩ := Reps.get h2 e2
        refine ⟨⟨vs, v, h1, h3⟩, fun w' H' y => ?_⟩
        obtain ⟨T, x, rfl, hT, rfl, y⟩ := y
        have := y vs h1
        rw [h3] at this; cases this
        exact ⟨Ext.newTup hT, R.newTup hT, T, _, rfl, .inl (.inl upd_same), _, _, rfl, rfl, _, _, rfl, Rep.ext (Ext.newTup hT) _ h4, rfl⟩
  | zipS n m =>
    obtain ⟨a, b, ha, hb, rfl⟩ := x
    unfold Wk.item at e
    dsimp only at e
    cases e1 : anyAt h n with
    | none => rw [e1] at e; cases e
    | some xs =>
      cases e2 : anyAt h m with
      | none => rw [e1, e2] at e; cases e
      | some ys =>
        rw [e1, e2] at e
        dsimp only at e
        cases e3 : xs[i]? with
        | none => rw [e3] at e; cases e
        | some x =>
          cases e4 : ys[i]? with
          | none => rw [e3, e4] at e; cases e
          | some y =>
            rw [e3, e4] at e
            cases e
            obtain ⟨vs, h1, h2⟩ := R.anyA e1 ha
            obtain ⟨us, h3, h4⟩ := R.anyA e2 hb
            obtain ⟨v, h5, h6⟩ := Reps.get h2 e3
            obtain ⟨u, h7, h8⟩ := Reps.get h4 e4
            refine ⟨⟨vs, us, v, u, h1, h3, h5, h7⟩, fun w' H' y => ?_⟩
            obtain ⟨T, x, y', rfl, hT, rfl, y1, y2⟩ := y
            have z1 := y1 vs h1
            have z2 := y2 us h3
            rw [h5] at z1; cases z1
            rw [h7] at z2; cases z2
            exact ⟨Ext.newTup hT, R.newTup hT, T, _, rfl, .inl (.inl upd_same), _, _, rfl, Rep.ext (Ext.newTup hT) _ h6, _, _, rfl, Rep.ext (Ext.newTup hT) _ h8, rfl⟩
  | zipT xs ys =>
    obtain ⟨a, b, vs, us, h1, h2, h3, h4, rfl⟩ := x
    unfold Wk.item at e
    dsimp only at e
    cases e3 : xs[i]? with
    | none => rw [e3] at e; cases e
    | some x =>
      cases e4 : ys[i]? with
      | none => rw [e3, e4] at e; cases e
      | some y =>
        rw [e3, e4] at e
        cases e
        obtain ⟨v, h5, h6⟩ := Reps.get h2 e3
        obtain ⟨u, h7, h8⟩ := Reps.get h4 e4
        refine ⟨⟨vs, us, v, u, h1, h3, h5, h7⟩, fun w' H' y => ?_⟩
        obtain ⟨T, x, y', rfl, hT, rfl, y1, y2⟩ := y
        have z1 := y1 vs h1
        have z2 := y2 us h3
        rw [h5] at z1; cases z1
        rw [h7] at z2; cases z2
        exact ⟨Ext.newTup hT, R.newTup hT, T, _, rfl, .inl (.inl upd_same), _, _, rfl, Rep.ext (Ext.newTup hT) _ h6, _, _, rfl, Rep.ext (Ext.newTup hT) _ h8, rfl⟩
  | revS n len =>
    obtain ⟨a, ha, rfl⟩ := x
    unfold Wk.item at e
    dsimp only at e
    split at e
    · rename_i xs e1
      split at e
      · rename_i c
        split at e
        · rename_i c2
          split at e
          · rename_i y e2
            cases e
            obtain ⟨vs, h1, h2⟩ := R.anyA e1 ha
            obtain ⟨v, h3, h4⟩ := Reps.get h2 e2
            have hl := Reps.length h2
            refine ⟨?_, fun w' H' y => ?_⟩
            · exact ⟨c2, vs, v, h1, h3⟩
            · first
                | (obtain ⟨rfl, y⟩ := y
                   have := y vs h1
                   rw [h3] at this; cases this
                   exact ⟨.refl, R, h4⟩)
                | (obtain ⟨rfl, y⟩ := y
                   have := y vs h1 (by omega)
                   rw [h3] at this; cases this
                   exact ⟨.refl, R, h4⟩)
          · cases e
        · split at e <;> cases e
      · cases e
    · cases e
  | revT xs =>
    obtain ⟨a, vs, h1, h2, rfl⟩ := x
    unfold Wk.item at e
    dsimp only at e
    split at e
    · rename_i c2
      split at e
      · rename_i y e2
        cases e
        obtain ⟨v, h3, h4⟩ := Reps.get h2 e2
        have hl := Reps.length h2
        refine ⟨?_, fun w' H' y => ?_⟩
        · exact ⟨c2, vs, v, h1, h3⟩
        · first
            | (obtain ⟨rfl, y⟩ := y
               have := y vs h1
               rw [h3] at this; cases this
               exact ⟨.refl, R, h4⟩)
            | (obtain ⟨rfl, y⟩ := y
               have := y vs h1 (by omega)
               rw [h3] at this; cases this
               exact ⟨.refl, R, h4⟩)
      · cases e
    · split at e <;> cases e
  | enT xs =>
    obtain ⟨a, vs, h1, h2, rfl⟩ := x
    unfold Wk.item at e
    dsimp only at e
    cases e2 : xs[i]? with
    | none => rw [e2] at e; dsimp only at e; split at e <;> cases e
    | some y =>
      rw [e2] at e
      cases e
      obtain ⟨v, h3, h4⟩ := Reps.get h2 e2
      refine ⟨⟨vs, v, h1, h3⟩, fun w' H' y => ?_⟩
      obtain ⟨T, x, rfl, hT, rfl, y⟩ := y
      have := y vs h1
      rw [h3] at this; cases this
      exact ⟨Ext.newTup hT, R.newTup hT, T, _, rfl, .inl (.inl upd_same), _, _, rfl, rfl, _, _, rfl, Rep.ext (Ext.newTup hT) _ h4, rfl⟩
end Ml
/-! The mill, part 7: what a loop walks, for, list comprehensions, small statements. -/
namespace Ml
open PySem PySem.Spec L2

abbrev MW := MG Wk
abbrev tWk (X : Cx) (W : WX) (m : MW) : TI := tG X W (WkOk X.K) m
theorem pi_imp {X : Cx} {tg e : Expr} {t t' : TI} (h : PI X tg e t) (f : ∀ σ H R, t' σ H R → t σ H R) : PI X tg e t' := ⟨fun pins s σ H R I q => h.run pins s σ H R I (f σ H R q)⟩
def iSeqA (K : PySem.W.Frag) (tl : TE) : TI := fun σ H R => tl σ H fun x H1 => ∃ a, x = .ref a ∧ (((∃ xs, SqL K H1 a xs) ∧ R (Itl K a) H1) ∨ ((∃ xs, SqT K H1 a xs) ∧ R (Itt K a) H1))
theorem pi_seqA {X : Cx} {tg l : Expr} {tl : TE} (hl : PE X l tl) : PI X tg l (iSeqA X.K tl) := by
  refine ⟨fun pins s σ H R I h => ?_⟩
  refine thn (hl.run pins s σ H _ I h) fun v s1 ⟨x, H1, I1, r1, q1⟩ => ?_
  obtain ⟨a, e, ⟨⟨xs, hq⟩, q⟩ | ⟨⟨xs, hq⟩, q⟩⟩ := q1
  · subst e
    cases r1
    obtain ⟨its, rv, p, hz⟩ := I1.list hq
    refine wpAny_pyIter_list p.isList ?_
    refine ⟨s1.heap.objs.size, [s1.heap.objs.size], _, _, H1, rfl, I1.kept (t' := s1.toks) fun b o e => Heap.get?_push_of_some _ e, turn_list a _, ⟨_, Heap.get?_push_size _ rfl, rfl, rfl⟩, fun b hb => ?_, q⟩
    have e : b = s1.heap.objs.size := by simpa using hb
    subst e
    exact I1.fpOk (Nat.le_refl _) (I1.hok.fresh (Nat.le_refl _))
  · subst e
    cases r1
    obtain ⟨its, rv, p, hz⟩ := I1.tuple hq
    refine wpAny_pyIter_tuple (show s1.heap.IsTuple a its.toArray from p) ?_
    refine ⟨s1.heap.objs.size, [s1.heap.objs.size], _, _, H1, rfl, I1.kept (t' := s1.toks) fun b o e => Heap.get?_push_of_some _ e, turn_tuple a _, ⟨_, Heap.get?_push_size _ rfl, rfl, rfl⟩, fun b hb => ?_, q⟩
    have e : b = s1.heap.objs.size := by simpa using hb
    subst e
    exact I1.fpOk (Nat.le_refl _) (I1.hok.fresh (Nat.le_refl _))
def seqF : D → Sto → R Wk
  | .ref n, h => match anyAt h n with
    | some _ => .ok (.seq n) h
    | none => .no
  | .tup xs, h => .ok (.tup xs) h
  | _, _ => .no
def mSeq (m : ME) : MW := fun ρ h => (m ρ h).bind seqF
section
variable {X : Cx} {W : WX} {tg : Expr} {pos p : Pos}
theorem i_seq {l : Expr} {m : ME} (hl : PE X l (tD X W m)) : PI X tg l (tWk X W (mSeq m)) := by
  refine pi_imp (pi_seqA hl) fun σ H R x => ?_
  obtain ⟨α, ρ, h, Rh, E, o⟩ := x
  refine ⟨α, ρ, h, Rh, E, OkG.bind (k := seqF) o fun α1 H1 d h1 v e1 R1 r1 o1 => ?_⟩
  cases d with
  | ref n =>
    have o1 : OkG X.K X.mg W σ (WkOk X.K) R α1 H1 (match anyAt h1 n with | some _ => .ok (.seq n) h1 | none => .no) := o1
    cases e2 : anyAt h1 n with
    | none => rw [e2] at o1; exact o1.elim
    | some xs =>
      rw [e2] at o1
      obtain ⟨a, vs, ha, rfl, hs, rs⟩ := R1.any e2 r1
      exact ⟨a, rfl, .inl ⟨⟨vs, hs⟩, o1 α1 H1 _ .refl R1 ⟨a, ha, rfl⟩⟩⟩
  | tup xs =>
    obtain ⟨a, vs, rfl, hs, rs⟩ := r1
    exact ⟨a, rfl, .inr ⟨⟨vs, hs⟩, o1 α1 H1 _ .refl R1 (.inl ⟨a, vs, hs, rs, rfl⟩)⟩⟩
  | _ => exact o1.elim
def mWk (f : List D → Sto → R Wk) (k : MA) : MW := fun ρ h => (k ρ h).bind f
def rng1F : List D → Sto → R Wk
  | [.int j], h => if -(2 ^ 62) ≤ j ∧ j < 2 ^ 62 then .ok (.rng 0 j.toNat) h else .no
  | _, _ => .no
def rng2F : List D → Sto → R Wk
  | [.int i, .int j], h => if -(2 ^ 62) ≤ i ∧ i < 2 ^ 62 ∧ -(2 ^ 62) ≤ j ∧ j < 2 ^ 62 then .ok (.rng i (j - i).toNat) h else .no
  | _, _ => .no
theorem i_rng1 {a : Expr} {k : MA} (hg : Gl X "range") (hm : X.mg "range" = none) (ha : PA X [a] (tDs X W k)) (hs : starEach [a] X.env = [(false, eval a X.env)] := by rfl) : PI X tg (.Call (.Name "range" p) [a] [] pos) (tWk X W (mWk rng1F k)) := by
  refine pi_imp (pi_range1 hg hm ha hs) fun σ H R x => ?_
  obtain ⟨α, ρ, h, Rh, E, o⟩ := x
  refine ⟨α, ρ, h, Rh, E, OkG.bind (k := rng1F) o fun α1 H1 ds h1 vs e1 R1 r1 o1 => ?_⟩
  unfold rng1F at o1
  split at o1
  · rename_i j
    obtain ⟨v, r, rfl, q1, q2⟩ := r1
    cases q2
    cases (show v = .int j from q1)
    split at o1
    · rename_i c
      exact ⟨j, rfl, c.1, c.2, o1 α1 H1 _ .refl R1 rfl⟩
    · exact o1.elim
  · exact o1.elim
theorem i_rng2 {a b : Expr} {k : MA} (hg : Gl X "range") (hm : X.mg "range" = none) (ha : PA X [a, b] (tDs X W k)) (hs : starEach [a, b] X.env = [(false, eval a X.env), (false, eval b X.env)] := by rfl) (hs2 : starEach [b] X.env = [(false, eval b X.env)] := by rfl) : PI X tg (.Call (.Name "range" p) [a, b] [] pos) (tWk X W (mWk rng2F k)) := by
  refine pi_imp (pi_range2 hg hm ha hs hs2) fun σ H R x => ?_
  obtain ⟨α, ρ, h, Rh, E, o⟩ := x
  refine ⟨α, ρ, h, Rh, E, OkG.bind (k := rng2F) o fun α1 H1 ds h1 vs e1 R1 r1 o1 => ?_⟩
  unfold rng2F at o1
  split at o1
  · rename_i i j
    obtain ⟨v, r, rfl, q1, v2, r2, rfl, q2, q3⟩ := r1
    cases q3
    cases (show v = .int i from q1)
    cases (show v2 = .int j from q2)
    split at o1
    · rename_i c
      exact ⟨i, j, rfl, c, o1 α1 H1 _ .refl R1 rfl⟩
    · exact o1.elim
  · exact o1.elim
/-- a range with a step -/
def rng3F : List D → Sto → R Wk
  | [.int i, .int j, .int c], h => if c ≠ 0 ∧ c.natAbs < 1073741824 ∧ Builtin.Range.small i j c = true ∧ 0 ≤ Builtin.Range.rangeSize i j c then .ok (.tup (stepD i c (Builtin.Range.rangeSize i j c).toNat)) h else .no
  | _, _ => .no
theorem i_rng3 {a b c : Expr} {k : MA} (hg : Gl X "range") (hm : X.mg "range" = none) (ha : PA X [a, b, c] (tDs X W k)) (hs : starEach [a, b, c] X.env = (false, eval a X.env) :: starEach [b, c] X.env := by rfl) (hpl : (backTo pos (starEach [b, c] X.env)).any (·.1) = false := by rfl) : PI X tg (.Call (.Name "range" p) [a, b, c] [] pos) (tWk X W (mWk rng3F k)) := by
  refine pi_imp (pi_range3 hg hm ha hs hpl) fun σ H R x => ?_
  obtain ⟨α, ρ, h, Rh, E, o⟩ := x
  refine ⟨α, ρ, h, Rh, E, OkG.bind (k := rng3F) o fun α1 H1 ds h1 vs e1 R1 r1 o1 => ?_⟩
  unfold rng3F at o1
  split at o1
  · rename_i i j c
    obtain ⟨v, r, rfl, q1, v2, r2, rfl, q2, v3, r3, rfl, q3, q4⟩ := r1
    cases q4
    cases (show v = .int i from q1)
    cases (show v2 = .int j from q2)
    cases (show v3 = .int c from q3)
    split at o1
    · rename_i k
      exact ⟨i, j, c, _, rfl, ⟨k.1, k.2.1, k.2.2.1, (Int.toNat_of_nonneg k.2.2.2).symm⟩, o1 α1 H1 _ .refl R1 (.inr ⟨i, c, _, rfl, rfl⟩)⟩
    · exact o1.elim
  · exact o1.elim
def enF : List D → Sto → R Wk
  | [.ref n], h => match anyAt h n with
    | some _ => .ok (.enS n) h
    | none => .no
  | [.tup xs], h => .ok (.enT xs) h
  | _, _ => .no
theorem i_enum {e : Expr} {k : MA} {elts : List Expr} {kk : Nat} {tpos : Pos} (hg : Gl X "enumerate") (hm : X.mg "enumerate" = none) (ha : PA X [e] (tDs X W k)) (hs : starEach [e] X.env = [(false, eval e X.env)] := by rfl) : PI X (.Tuple elts kk tpos) (.Call (.Name "enumerate" p) [e] [] pos) (tWk X W (mWk enF k)) := by
  refine pi_imp (pi_enA hg hm ha hs) fun σ H R x => ?_
  obtain ⟨α, ρ, h, Rh, E, o⟩ := x
  refine ⟨α, ρ, h, Rh, E, OkG.bind (k := enF) o fun α1 H1 ds h1 vs e1 R1 r1 o1 => ?_⟩
  unfold enF at o1
  split at o1
  · rename_i n
    obtain ⟨v, r, rfl, q1, q2⟩ := r1
    cases q2
    cases e2 : anyAt h1 n with
    | none => rw [e2] at o1; exact o1.elim
    | some xs =>
      rw [e2] at o1
      obtain ⟨a, vs, ha, rfl, hs, rs⟩ := R1.any e2 q1
      exact ⟨a, rfl, .inl ⟨⟨vs, hs⟩, o1 α1 H1 _ .refl R1 ⟨a, ha, rfl⟩⟩⟩
  · rename_i xs
    obtain ⟨v, r, rfl, ⟨a, vs, rfl, hs, rs⟩, q2⟩ := r1
    cases q2
    exact ⟨a, rfl, .inr ⟨⟨vs, hs⟩, o1 α1 H1 _ .refl R1 ⟨a, vs, hs, rs, rfl⟩⟩⟩
  · exact o1.elim
def zipF : List D → Sto → R Wk
  | [.ref n, .ref m], h => match anyAt h n, anyAt h m with
    | some _, some _ => .ok (.zipS n m) h
    | _, _ => .no
  | [.tup xs, .tup ys], h => .ok (.zipT xs ys) h
  | _, _ => .no
theorem i_zip {e e2 : Expr} {k : MA} {elts : List Expr} {kk : Nat} {tpos : Pos} (hg : Gl X "zip") (hm : X.mg "zip" = none) (ha : PA X [e, e2] (tDs X W k))
    (hs : starEach [e, e2] X.env = (false, eval e X.env) :: starEach [e2] X.env := by rfl) (hpl : (backTo pos (starEach [e2] X.env)).any (·.1) = false := by rfl) : PI X (.Tuple elts kk tpos) (.Call (.Name "zip" p) [e, e2] [] pos) (tWk X W (mWk zipF k)) := by
  refine pi_imp (RZ.pi_zipA hg hm ha hs hpl) fun σ H R x => ?_
  obtain ⟨α, ρ, h, Rh, E, o⟩ := x
  refine ⟨α, ρ, h, Rh, E, OkG.bind (k := zipF) o fun α1 H1 ds h1 vs e1 R1 r1 o1 => ?_⟩
  unfold zipF at o1
  split at o1
  · rename_i n m
    obtain ⟨v, r, rfl, q1, v2, r2, rfl, q2, q3⟩ := r1
    cases q3
    cases e2 : anyAt h1 n with
    | none => rw [e2] at o1; exact o1.elim
    | some xs =>
      cases e3 : anyAt h1 m with
      | none => rw [e2, e3] at o1; exact o1.elim
      | some ys =>
        rw [e2, e3] at o1
        obtain ⟨a, vs, ha, rfl, hs, rs⟩ := R1.any e2 q1
        obtain ⟨b, us, hb, rfl, hs2, rs2⟩ := R1.any e3 q2
        exact ⟨a, b, vs, us, rfl, .inl ⟨hs, hs2, o1 α1 H1 _ .refl R1 ⟨a, b, ha, hb, rfl⟩⟩⟩
  · rename_i xs ys
    obtain ⟨v, r, rfl, ⟨a, vs, rfl, hs, rs⟩, v2, r2, rfl, ⟨b, us, rfl, hs2, rs2⟩, q3⟩ := r1
    cases q3
    exact ⟨a, b, vs, us, rfl, .inr ⟨hs, hs2, o1 α1 H1 _ .refl R1 ⟨a, b, vs, us, hs, rs, hs2, rs2, rfl⟩⟩⟩
  · exact o1.elim
def revF : D → Sto → R Wk
  | .ref n, h => match anyAt h n with
    | some xs => .ok (.revS n xs.length) h
    | none => .no
  | .tup xs, h => .ok (.revT xs) h
  | _, _ => .no
def mRev (m : ME) : MW := fun ρ h => (m ρ h).bind revF
theorem i_rev {e : Expr} {m : ME} (hg : Gl X "reversed") (hm : X.mg "reversed" = none) (he : PE X e (tD X W m)) (hs : starEach [e] X.env = (false, eval e X.env) :: starEach [] X.env := by rfl) : PI X tg (.Call (.Name "reversed" p) [e] [] pos) (tWk X W (mRev m)) := by
  refine pi_imp (RT.pi_revA hg hm he hs) fun σ H R x => ?_
  obtain ⟨α, ρ, h, Rh, E, o⟩ := x
  refine ⟨α, ρ, h, Rh, E, OkG.bind (k := revF) o fun α1 H1 d h1 v e1 R1 r1 o1 => ?_⟩
  cases d with
  | ref n =>
    have o1 : OkG X.K X.mg W σ (WkOk X.K) R α1 H1 (match anyAt h1 n with | some xs => .ok (.revS n xs.length) h1 | none => .no) := o1
    cases e2 : anyAt h1 n with
    | none => rw [e2] at o1; exact o1.elim
    | some xs =>
      rw [e2] at o1
      obtain ⟨a, vs, ha, rfl, hs, rs⟩ := R1.any e2 r1
      refine ⟨a, vs, rfl, .inl ⟨hs, o1 α1 H1 _ .refl R1 ⟨a, ha, by rw [Reps.length rs]⟩⟩⟩
  | tup xs =>
    obtain ⟨a, vs, rfl, hs, rs⟩ := r1
    exact ⟨a, vs, rfl, .inr ⟨hs, o1 α1 H1 _ .refl R1 ⟨a, vs, hs, rs, by rw [Reps.length rs]⟩⟩⟩
  | _ => exact o1.elim

/-! ### for -/
def loopS (w : Wk) (t : Tg) (body : MS) : Nat → Nat → MS
  | fuel, i, ρ, h => match w.item h i with
    | none => .no
    | some none => .nx ρ h
    | some (some d) => match fuel with
      | 0 => .no
      | fuel + 1 => match setTg t d ρ h with
        | none => .no
        | some ρ1 => match body ρ1 h with
          | .nx ρ2 h2 => loopS w t body fuel (i + 1) ρ2 h2
          | .ct ρ2 h2 => loopS w t body fuel (i + 1) ρ2 h2
          | .bk ρ2 h2 => .nx ρ2 h2
          | .rt d h2 => .rt d h2
          | .ex e ρ2 h2 => .ex e ρ2 h2
          | .no => .no
def mFor (mw : MW) (t : Tg) (body : MS) : MS := fun ρ h => (mw ρ h).into ρ fun w h1 => loopS w t body (w.len h1) 0 ρ h1
theorem s_for {iter tge : Expr} {body : List Stmt} {mw : MW} {t : Tg} {mb : MS} (hp : PassesOwn (model X.prog X.w) X.A X.env X.xe) (hc : X.calm = true) (hi : PI X tge iter (tWk X W mw)) (hg : PG X tge (gTg X.K t)) (hb : PSs X body (tSt X W mb))
    (hs : ∀ x, foldedSetIterable iter X.env x = pure x := by intro _; rfl) : PS X (.For tge iter body [] pos) (tSt X W (mFor mw t mb)) := by
  refine ps_imp (ps_for hp hc hi hg hb hs) fun Dn σ H x => ?_
  refine tSt.step x fun α1 ρ H1 w h1 J R1 E1 wk o1 => ?_
  refine ⟨fun i m σ' H' => ∃ α' ρ' h', Ext X.K α1 H1 α' H' ∧ RelH X.K α' h' H' ∧ RelE X.K α' H' ρ' σ' ∧ OkS X.K X.mg W Dn α' H' (loopS w t mb m i ρ' h'), ⟨w.len h1, α1, ρ, h1, .refl, R1, E1, o1⟩, ?_⟩
  rintro i m σ' H' ⟨α', ρ', h', e', R', E', o'⟩
  have wk' := WkOk.ext e' wk
  unfold loopS at o'
  cases q : w.item h' i with
  | none => rw [q] at o'; exact o'.elim
  | some z =>
    rw [q] at o'
    cases z with
    | none => exact .inl ⟨wk'.stop R' q, o' α' σ' H' .refl R' E'⟩
    | some d =>
      dsimp only at o'
      cases m with
      | zero => exact o'.elim
      | succ m =>
        dsimp only at o'
        obtain ⟨go, yl⟩ := wk'.go R' q
        refine .inr ⟨go, fun σ2 H2 => ∃ α' ρ' h', Ext X.K α1 H1 α' H2 ∧ RelH X.K α' h' H2 ∧ RelE X.K α' H2 ρ' σ2 ∧ OkS X.K X.mg W Dn α' H2 (loopS w t mb m (i + 1) ρ' h'), fun σ2 H2 n => ⟨m, Nat.lt_succ_self m, n⟩, fun v H2 y => ?_⟩
        obtain ⟨e2, R2, r2⟩ := yl v H2 y
        cases q2 : setTg t d ρ' h' with
        | none => rw [q2] at o'; exact o'.elim
        | some ρ1 =>
          rw [q2] at o'
          dsimp only at o'
          refine gTg_of R2 q2 r2 (E'.ext e2) fun vs _ E3 => ⟨α', ρ1, h', R2, E3, ?_⟩
          have o2 := OkS.later e2 o'
          cases q3 : mb ρ1 h' with
          | nx ρ2 h2 => rw [q3] at o2; exact fun α3 σ3 H3 e3 R3 E3 => ⟨α3, ρ2, h2, (e'.trans e2).trans e3, R3, E3, OkS.later e3 o2⟩
          | ct ρ2 h2 => rw [q3] at o2; exact fun α3 σ3 H3 e3 R3 E3 => ⟨α3, ρ2, h2, (e'.trans e2).trans e3, R3, E3, OkS.later e3 o2⟩
          | bk ρ2 h2 => rw [q3] at o2; exact o2
          | rt d h2 => rw [q3] at o2; exact o2
          | ex e ρ2 h2 => rw [q3] at o2; exact o2
          | no => rw [q3] at o2; exact o2.elim

/-! ### list comprehensions: the new list stands at n -/
def wipeD (ρ : Sl) : List Nat → Sl
  | [] => ρ
  | v :: vs => (wipeD ρ vs).set v none
theorem RelE.wipe {K : PySem.W.Frag} {α : List Addr} {H : Hp} {ρ : Sl} {σ : L2.St} (E : RelE K α H ρ σ) : ∀ vs : List Nat, RelE K α H (wipeD ρ vs) (wipe σ vs)
  | [] => E
  | v :: vs => by
    have ih := RelE.wipe E vs
    unfold wipeD L2.wipe
    refine ⟨by simp [ih.len], fun i d e => ?_⟩
    by_cases hi : v = i
    · subst hi
      by_cases hv : v < (wipeD ρ vs).length
      · rw [List.getElem?_set_self hv] at e; cases e
      · rw [List.getElem?_eq_none (by simpa using hv)] at e; cases e
    · rw [List.getElem?_set_ne hi] at e
      rw [List.getElem?_set_ne hi]
      exact ih.at' i d e
def loopC (w : Wk) (t : Tg) (ts : MT) (me : ME) (n : Nat) (ρ : Sl) : Nat → Nat → Sto → R Unit
  | fuel, i, h => match w.item h i with
    | none => .no
    | some none => .ok () h
    | some (some d) => match fuel with
      | 0 => .no
      | fuel + 1 => match setTg t d ρ h with
        | none => .no
        | some ρ1 => match ts ρ1 h with
          | .ok false h2 => loopC w t ts me n ρ fuel (i + 1) h2
          | .ok true h2 => match me ρ1 h2 with
            | .ok y h3 => match lstAt h3 n with
              | some acc => if acc.length < 16777216 then loopC w t ts me n ρ fuel (i + 1) (h3.set n (.lst (acc ++ [y]))) else .no
              | none => .no
            | _ => .no
          | _ => .no
def mLc (mw : MW) (t : Tg) (ts : MT) (me : ME) (vs : List Nat) : ME := fun ρ h => (mw ρ h).bind fun w h1 => (loopC w t ts me h1.length (wipeD ρ vs) (w.len h1) 0 (h1 ++ [.lst []])).bind fun _ h2 => .ok (.ref h1.length) h2
def mYes : MT := fun _ h => .ok true h
def tgs : Tg → List Nat
  | .one i => [i]
  | .many is => is
theorem wipe_set {σ : L2.St} {v : V} {i : Nat} : ∀ {vs : List Nat}, i ∈ vs → wipe (σ.set i (some v)) vs = wipe σ vs
  | [], h => nomatch h
  | j :: vs, h => by
    unfold L2.wipe
    by_cases hm : i ∈ vs
    · rw [wipe_set hm]
    · rcases List.mem_cons.mp h with rfl | h
      · have key : ∀ (ws : List Nat), i ∉ ws → wipe (σ.set i (some v)) ws = (wipe σ ws).set i (some v) := by
          intro ws
          induction ws with
          | nil => intro _; rfl
          | cons k ws ih =>
            intro hn
            unfold L2.wipe
            rw [ih (fun z => hn (List.mem_cons_of_mem _ z)), List.set_comm _ _ (fun z => hn (by rw [z]; simp))]
        rw [key vs hm, List.set_set]
      · exact absurd h hm
theorem wipe_stAll {vs : List Nat} : ∀ {is : List Nat} {us : List V} {σ : L2.St}, (∀ i ∈ is, i ∈ vs) → wipe (stAll is us σ) vs = wipe σ vs
  | [], [], _, _ => rfl
  | [], _ :: _, _, _ => rfl
  | _ :: _, [], _, _ => rfl
  | i :: is, u :: us, σ, h => by
    show wipe (stAll is us (σ.set i (some u))) vs = _
    rw [wipe_stAll (fun j hj => h j (List.mem_cons_of_mem _ hj)), wipe_set (h i (by simp))]
theorem wipe_wipe {σ : L2.St} : ∀ {vs : List Nat}, wipe (wipe σ vs) vs = wipe σ vs := by
  have key : ∀ (vs ws : List Nat) , (∀ i ∈ vs, i ∈ ws) → wipe (wipe σ ws) vs = wipe σ ws := by
    intro vs
    induction vs with
    | nil => intro ws _; rfl
    | cons k vs ih =>
      intro ws h
      show (wipe (wipe σ ws) vs).set k none = wipe σ ws
      rw [ih ws fun i hi => h i (List.mem_cons_of_mem _ hi)]
      refine List.ext_getElem? fun j => ?_
      by_cases hj : k = j
      · subst hj
        by_cases hl : k < (wipe σ ws).length
        · rw [List.getElem?_set_self hl]
          cases q : (wipe σ ws)[k]? with
          | none => exact absurd (List.getElem?_eq_none_iff.mp q) (by omega)
          | some x =>
            cases x with
            | none => rfl
            | some v => exact absurd (h k (by simp)) (L2.wipe_some q).2
        · rw [List.getElem?_eq_none (by simpa using hl), List.getElem?_eq_none (by omega)]
      · rw [List.getElem?_set_ne hj]
  exact fun {vs} => key vs vs fun _ h => h
theorem lc_reads {mw : MW} {t : Tg} {ts : MT} {me : ME} {vs : List Nat} (hv : ∀ i ∈ tgs t, i ∈ vs) {σ : L2.St} {H : Hp} {Q : VK} (x : tD X W (mLc mw t ts me vs) σ H Q) :
    tLc (tWk X W mw) (gTg X.K t) (tDt X (fun _ _ _ _ => False) ts) (tD X (fun _ _ _ _ => False) me) vs σ H Q := by
  refine tG.step x fun α1 ρ H1 w h1 J R1 E1 wk o1 => ?_
  intro L hL
  have R2 := R1.newLst (ds := []) (vs := []) hL rfl
  have e2 : Ext X.K α1 H1 (α1 ++ [L]) (upd H1 L (.lst [])) := Ext.new hL [L]
  have aL : (α1 ++ [L])[h1.length]? = some L := by rw [← R1.len, List.getElem?_append_right (Nat.le_refl _)]; simp
  have E2 : RelE X.K (α1 ++ [L]) (upd H1 L (.lst [])) (wipeD ρ vs) (wipe σ vs) := (E1.ext e2).wipe vs
  refine ⟨fun i m H' => ∃ α' h', Ext X.K (α1 ++ [L]) (upd H1 L (.lst [])) α' H' ∧ RelH X.K α' h' H' ∧
    OkG X.K X.mg W σ (Rep X.K) Q α' H' ((loopC w t ts me h1.length (wipeD ρ vs) m i h').bind fun _ h2 => .ok (.ref h1.length) h2), ⟨w.len h1, α1 ++ [L], h1 ++ [.lst []], .refl, R2, OkG.later e2 o1⟩, ?_⟩
  rintro i m H' ⟨α', h', e', R', o'⟩
  have wk' := WkOk.ext (e2.trans e') wk
  unfold loopC at o'
  cases q : w.item h' i with
  | none => rw [q] at o'; exact o'.elim
  | some z =>
    rw [q] at o'
    cases z with
    | none => exact .inl ⟨wk'.stop R' q, o' α' H' _ .refl R' ⟨L, e'.at aL, rfl⟩⟩
    | some d =>
      dsimp only at o'
      cases m with
      | zero => exact o'.elim
      | succ m =>
        dsimp only at o'
        obtain ⟨go, yl⟩ := wk'.go R' q
        refine .inr ⟨go, fun H2 => ∃ α' h', Ext X.K (α1 ++ [L]) (upd H1 L (.lst [])) α' H2 ∧ RelH X.K α' h' H2 ∧
          OkG X.K X.mg W σ (Rep X.K) Q α' H2 ((loopC w t ts me h1.length (wipeD ρ vs) m (i + 1) h').bind fun _ h2 => .ok (.ref h1.length) h2), fun H2 n => ⟨m, Nat.lt_succ_self m, n⟩, fun v H2 y => ?_⟩
        obtain ⟨e3, R3, r3⟩ := yl v H2 y
        cases q2 : setTg t d (wipeD ρ vs) h' with
        | none => rw [q2] at o'; exact o'.elim
        | some ρ1 =>
          rw [q2] at o'
          dsimp only at o'
          have o3 := OkG.later e3 o'
          refine gTg_of R3 q2 r3 ((E2.ext e').ext e3) fun us hus E3 => ?_
          refine ⟨?_, ?_⟩
          · cases t with
            | one j =>
              show wipe ((wipe σ vs).set j (some v)) vs = _
              rw [wipe_set (hv j (by simp [tgs]))]
              exact wipe_wipe
            | many is =>
              show wipe (stAll is us (wipe σ vs)) vs = _
              rw [wipe_stAll (is := is) fun j hj => hv j hj]
              exact wipe_wipe
          refine ⟨α', ρ1, h', R3, E3, ?_⟩
          cases q3 : ts ρ1 h' with
          | ex e h2 => rw [q3] at o3; exact o3.elim
          | no => rw [q3] at o3; exact o3.elim
          | ok b h2 =>
            rw [q3] at o3
            intro α4 H4 c e4 R4 r4
            cases r4
            have o4 := OkG.later e4 o3
            cases b with
            | false =>
              simp only [Bool.false_eq_true, if_false]
              exact ⟨α4, h2, (e'.trans e3).trans e4, R4, o4⟩
            | true =>
              simp only [if_true]
              dsimp only at o4
              refine ⟨α4, ρ1, h2, R4, E3.ext e4, ?_⟩
              cases q4 : me ρ1 h2 with
              | ex e h3 => rw [q4] at o4; exact o4.elim
              | no => rw [q4] at o4; exact o4.elim
              | ok y h3 =>
                rw [q4] at o4
                dsimp only at o4
                intro α5 H5 c e5 R5 r5
                have o5 := OkG.later e5 o4
                cases q5 : lstAt h3 h1.length with
                | none => rw [q5] at o5; exact o5.elim
                | some acc =>
                  rw [q5] at o5
                  dsimp only at o5
                  have aL5 : α5[h1.length]? = some L := e5.at (e4.at (e3.at (e'.at aL)))
                  obtain ⟨a, as, ha, hL', hA, ra⟩ := R5.lst q5 (v := .ref L) ⟨L, aL5, rfl⟩
                  cases hL'
                  by_cases hz : acc.length < 16777216
                  · simp only [hz, if_true] at o5
                    obtain ⟨R6, e6⟩ := R5.write (lstAt_of q5) aL5 (Reps.append ra (Reps.one r5))
                    exact ⟨as, hA, by rw [sizeLine_eq, Reps.length ra]; exact hz, α5, _, (((e'.trans e3).trans e4).trans e5).trans e6, R6, OkG.later e6 o5⟩
                  · simp only [hz, if_false] at o5
                    exact o5.elim
end
end Ml
/-! The mill, part 8: statements; calls of defs; what a def promises. -/
namespace Ml
open PySem PySem.Spec L2

section
variable {X : Cx} {W : WX} {pos p : Pos}
/-! ### blocks -/
def mNx : MS := fun ρ h => .nx ρ h
def mSeqS (m k : MS) : MS := fun ρ h => match m ρ h with
  | .nx ρ1 h1 => k ρ1 h1
  | o => o
theorem ss_nil : PSs X [] (tSt X W mNx) := pss_imp pss_nil fun Dn σ H x => by
  obtain ⟨α, ρ, h, R, E, o⟩ := x
  exact o α σ H .refl R E
theorem ss_one {st : Stmt} {m : MS} (h1 : PS X st (tSt X W m)) : PSs X [st] (tSt X W m) := pss_one h1
theorem ss_cons {st : Stmt} {rest : List Stmt} {m k : MS} (h1 : PS X st (tSt X W m)) (h2 : PSs X rest (tSt X W k)) : PSs X (st :: rest) (tSt X W (mSeqS m k)) := by
  refine pss_imp (pss_cons h1 h2) fun Dn σ H x => ?_
  obtain ⟨α, ρ, h, R, E, o⟩ := x
  refine ⟨α, ρ, h, R, E, ?_⟩
  unfold mSeqS at o
  cases q : m ρ h with
  | nx ρ1 h1 => rw [q] at o; exact fun α' σ' H' e R' E' => ⟨α', ρ1, h1, R', E', OkS.later e o⟩
  | ct ρ1 h1 => rw [q] at o; exact o
  | bk ρ1 h1 => rw [q] at o; exact o
  | rt ρ1 h1 => rw [q] at o; exact o
  | ex e ρ1 h1 => rw [q] at o; exact o
  | no => rw [q] at o; exact o
def mBk : MS := fun ρ h => .bk ρ h
def mCt : MS := fun ρ h => .ct ρ h
theorem s_break : PS X (.Break pos) (tSt X W mBk) := ps_imp ps_break fun Dn σ H x => by
  obtain ⟨α, ρ, h, R, E, o⟩ := x
  exact o α σ H .refl R E
theorem s_continue : PS X (.Continue pos) (tSt X W mCt) := ps_imp ps_continue fun Dn σ H x => by
  obtain ⟨α, ρ, h, R, E, o⟩ := x
  exact o α σ H .refl R E
theorem s_pass : PS X (.Pass pos) (tSt X W mNx) := ps_imp ps_pass fun Dn σ H x => by
  obtain ⟨α, ρ, h, R, E, o⟩ := x
  exact o α σ H .refl R E
def mRet (m : ME) : MS := fun ρ h => (m ρ h).into ρ fun d h1 => .rt d h1
theorem s_ret {e : Expr} {m : ME} (he : PE X e (tD X W m)) : PS X (.Return (some e) pos) (tSt X W (mRet m)) := ps_imp (ps_ret he) fun Dn σ H x =>
  tSt.step x fun α1 ρ H1 d h1 v R1 E1 r1 o1 => o1 α1 H1 v .refl R1 r1
theorem s_retN : PS X (.Return none pos) (tSt X W (mRet (mC .non))) := ps_imp ps_retN fun Dn σ H x => by
  obtain ⟨α, ρ, h, R, E, o⟩ := x
  exact o α H .non .refl R rfl
def mDrop (m : ME) : MS := fun ρ h => (m ρ h).into ρ fun _ h1 => .nx ρ h1
theorem s_expr {e : Expr} {m : ME} (he : PE X e (tD X W m)) (hs : swapsWith e none pos.line X.env = pure false := by rfl) : PS X (.Expr e pos) (tSt X W (mDrop m)) := ps_imp (ps_expr he hs) fun Dn σ H x =>
  tSt.step x fun α1 ρ H1 d h1 v R1 E1 r1 o1 => o1 α1 σ H1 .refl R1 E1
def mIfS (t : MT) (m k : MS) : MS := fun ρ h => (t ρ h).into ρ fun b h1 => if b then m ρ h1 else k ρ h1
theorem s_if {c : Expr} {a b : List Stmt} {t : MT} {m k : MS} (hc : PT X c (tDt X W t)) (ha : PSs X a (tSt X W m)) (hb : PSs X b (tSt X W k)) : PS X (.If c a b pos) (tSt X W (mIfS t m k)) := ps_imp (ps_if hc ha hb) fun Dn σ H x =>
  tSt.step x fun α1 ρ H1 b h1 v R1 E1 r1 o1 => by
    cases r1
    cases b with
    | true => exact ⟨α1, ρ, h1, R1, E1, o1⟩
    | false => exact ⟨α1, ρ, h1, R1, E1, o1⟩
/-! ### stores -/
def mSet (i : Nat) (m : ME) : MS := fun ρ h => (m ρ h).into ρ fun d h1 => .nx (ρ.set i (some d)) h1
theorem set_imp {i : Nat} {m : ME} {Dn : Ends} {σ : L2.St} {H : Hp} (x : tSt X W (mSet i m) Dn σ H) : tAsg (tD X W m) (gName i) Dn σ H :=
  tSt.step x fun α1 ρ H1 d h1 v R1 E1 r1 o1 => o1 α1 _ H1 .refl R1 (E1.set i r1)
theorem s_set (i : Nat) {x : Str} {e : Expr} {m : ME} {pos' : Pos} (hN : X.N.Nodup) (he : PE X e (tD X W m)) (hi : X.N[i]? = some x := by rfl) (hx : Loc X.env.scope x := by first | exact Or.inl rfl | exact Or.inr rfl) (hs : swapsWith e (some (.Name x pos')) pos.line X.env = pure false := by rfl)
    (hf : X.fn x = true ∨ X.env.scope.names.lookup x = some .local := by first | exact .inl rfl | exact .inr rfl) : PS X (.Assign [.Name x pos'] e pos) (tSt X W (mSet i m)) := ps_imp (ps_set hN hi hx he hs hf) fun Dn σ H x => set_imp x
theorem d_lc {elt tg iter : Expr} {ifs : List Expr} {scope : Scope} (own : List (Str × Nat)) {mw : MW} {t : Tg} {ts : MT} {me : ME} (hc : X.calm = true) (hN : X.N.Nodup) (hi : PI X tg iter (tWk X W mw)) (ok : BlkOk X.N X.env.scope scope own)
    (hv : ∀ i ∈ tgs t, i ∈ own.map (·.2))
    (hg : ∀ (s : Shared) (H : Hp) (C : Addr) (cl : List (Str × Addr)) (fp : List Addr), PG (X.blk s H scope (compEnvC scope cl C X.env) fp) tg (gTg X.K t))
    (ht : ∀ (s : Shared) (H : Hp) (C : Addr) (cl : List (Str × Addr)) (fp : List Addr), PTs (X.blk s H scope (compEnvC scope cl C X.env) fp) ifs (tDt (X.blk s H scope (compEnvC scope cl C X.env) fp) (fun _ _ _ _ => False) ts))
    (he : ∀ (s : Shared) (H : Hp) (C : Addr) (cl : List (Str × Addr)) (fp : List Addr), PE (X.blk s H scope (compEnvC scope cl C X.env) fp) elt (tD (X.blk s H scope (compEnvC scope cl C X.env) fp) (fun _ _ _ _ => False) me)) (hs : ∀ x, foldedSetIterable iter X.env x = pure x := by intro _; rfl) :
    PE X (.ListComp elt [⟨tg, iter, ifs, 0⟩] scope pos) (tD X W (mLc mw t ts me (own.map (·.2)))) :=
  pe_imp (pe_lc (tt := tDt X (fun _ _ _ _ => False) ts) (te := tD X (fun _ _ _ _ => False) me) hc hN hi ok hg ht he hs) fun _ _ _ x => lc_reads hv x
theorem s_setLc (i : Nat) {y : Str} {py : Pos} {elt tg iter : Expr} {ifs : List Expr} {scope : Scope} (own : List (Str × Nat)) {spos : Pos} {mw : MW} {t : Tg} {ts : MT} {me : ME} (hc : X.calm = true) (hN : X.N.Nodup) (hi : PI X tg iter (tWk X W mw)) (ok : BlkOk X.N X.env.scope scope own)
    (hv : ∀ i ∈ tgs t, i ∈ own.map (·.2))
    (hg : ∀ (s : Shared) (H : Hp) (C : Addr) (cl : List (Str × Addr)) (fp : List Addr), PG (X.blk s H scope (compEnvC scope cl C X.env) fp) tg (gTg X.K t))
    (ht : ∀ (s : Shared) (H : Hp) (C : Addr) (cl : List (Str × Addr)) (fp : List Addr), PTs (X.blk s H scope (compEnvC scope cl C X.env) fp) ifs (tDt (X.blk s H scope (compEnvC scope cl C X.env) fp) (fun _ _ _ _ => False) ts))
    (he : ∀ (s : Shared) (H : Hp) (C : Addr) (cl : List (Str × Addr)) (fp : List Addr), PE (X.blk s H scope (compEnvC scope cl C X.env) fp) elt (tD (X.blk s H scope (compEnvC scope cl C X.env) fp) (fun _ _ _ _ => False) me))
    (hsw : swapsWith (.ListComp elt [⟨tg, iter, ifs, 0⟩] scope pos) (some (.Name y py)) spos.line X.env = pure true)
    (hy : X.N[i]? = some y := by rfl) (hyl : X.env.scope.names.lookup y = some .local := by rfl) (hs : ∀ x, foldedSetIterable iter X.env x = pure x := by intro _; rfl) :
    PS X (.Assign [.Name y py] (.ListComp elt [⟨tg, iter, ifs, 0⟩] scope pos) spos) (tSt X W (mSet i (mLc mw t ts me (own.map (·.2))))) := by
  refine ps_imp (ps_setLc (tt := tDt X (fun _ _ _ _ => False) ts) (te := tD X (fun _ _ _ _ => False) me) hc hN hy hyl hsw hi ok hg ht he hs) fun Dn σ H x => ?_
  obtain ⟨α, ρ, h, R, E, o⟩ := x
  have o2 : OkG X.K X.mg W σ (Rep X.K) (fun v H' => Dn.nx (σ.set i (some v)) H') α H (mLc mw t ts me (own.map (·.2)) ρ h) := OkS.into o E fun α1 H1 d h1 v e1 R1 r1 o1 => o1 α1 _ H1 .refl R1 ((E.ext e1).set i r1)
  exact lc_reads (W := W) hv ⟨α, ρ, h, R, E, o2⟩
/-- the tests of a comprehension -/
theorem p_nil : PTs X [] (tDt X W mYes) := ⟨fun pins s σ H Q I x => by
  obtain ⟨α, ρ, h, R, E, o⟩ := x
  exact pts_nil.run pins s σ H Q I (o α H true .refl R rfl)⟩
theorem p_one {c : Expr} {t : MT} (h : PT X c (tDt X W t)) : PTs X [c] (tDt X W t) := pts_one h
/-- name op= e -/
def mAug (i : Nat) (f : D → D → Sto → R D) (m : ME) : MS := fun ρ h => match ρ[i]? with
  | some (some x) => (m ρ h).into ρ fun y h1 => (f x y h1).into ρ fun z h2 => .nx (ρ.set i (some z)) h2
  | _ => .no
/-- by the rule of the operator's in-place form -/
def OpI (X : Cx) (f : D → D → Sto → R D) (r : TIp) : Prop := ∀ (W : WX) (σ : L2.St) (Q : VK) α h H x y u v, RelH X.K α h H → Rep X.K α H x u → Rep X.K α H y v → OkG X.K X.mg W σ (Rep X.K) Q α H (f x y h) → r u v H Q
theorem s_aug (i : Nat) {x : Str} {e : Expr} {m : ME} {f : D → D → Sto → R D} {r : TIp} {op : Operator} {pos' : Pos} (hN : X.N.Nodup) (ho : PIp X op r) (hf : OpI X f r) (he : PE X e (tD X W m)) (hi : X.N[i]? = some x := by rfl) (hx : Loc X.env.scope x := by first | exact Or.inl rfl | exact Or.inr rfl)
    (hfn : X.fn x = true ∨ X.env.scope.names.lookup x = some .local := by first | exact .inl rfl | exact .inr rfl) : PS X (.AugAssign (.Name x pos') op e pos) (tSt X W (mAug i f m)) := by
  refine ps_imp (ps_aug hN hi hx he ho hfn) fun Dn σ H x => ?_
  obtain ⟨α, ρ, h, R, E, o⟩ := x
  unfold mAug at o
  split at o
  · rename_i d e1
    obtain ⟨v, h1, h2⟩ := E.at' i d e1
    refine ⟨v, h1, α, ρ, h, R, E, OkS.into o E fun α1 H1 y h1 u e2 R1 r1 o1 => ?_⟩
    refine hf W σ _ α1 h1 H1 d y v u R1 (Rep.ext e2 d h2) r1 (OkS.into o1 (E.ext e2) fun α2 H2 z h2 w e3 R2 r2 o2 => ?_)
    exact o2 α2 _ H2 .refl R2 (((E.ext e2).ext e3).set i r2)
  · exact o.elim
def intF2 (g : Int → Int → Int) : D → D → Sto → R D
  | .int i, .int j, h => .ok (.int (g i j)) h
  | _, _, _ => .no
theorem ipI_ok {g : Int → Int → Int} : OpI X (intF2 g) (ipI g) := by
  intro W σ Q α h H x y u v R r1 r2 o
  cases x with
  | int i =>
    cases y with
    | int j =>
      cases (show u = .int i from r1)
      cases (show v = .int j from r2)
      exact ⟨i, j, rfl, rfl, o α H _ .refl R rfl⟩
    | _ => exact o.elim
  | _ => cases y <;> exact o.elim
/-- xs[i] = v -/
def setF (o i v : D) (h : Sto) : Option Sto := match o, i with
  | .ref n, .int k => match lstAt h n with
    | some xs => match ixN xs.length k with
      | some j => some (h.set n (.lst (xs.set j v)))
      | none => none
    | none => none
  | _, _ => none
def mSub (mo mi mv : ME) : MS := fun ρ h => (mv ρ h).into ρ fun v h1 => (mo ρ h1).into ρ fun o h2 => (mi ρ h2).into ρ fun i h3 => match setF o i v h3 with
  | some h4 => .nx ρ h4
  | none => .no
theorem setF_of {α : List Addr} {h h4 : Sto} {H : Hp} {o i v : D} {uo ui uv : V} {Q : Hp → Prop} (R : RelH X.K α h H) (ro : Rep X.K α H o uo) (ri : Rep X.K α H i ui) (rv : Rep X.K α H v uv) (e : setF o i v h = some h4)
    (q : ∀ H', Ext X.K α H α H' → RelH X.K α h4 H' → Q H') : rSetL uo ui uv H Q := by
  cases o with
  | ref n =>
    cases i with
    | int k =>
      cases (show ui = .int k from ri)
      unfold setF at e
      dsimp only at e
      cases e1 : lstAt h n with
      | none => rw [e1] at e; cases e
      | some xs =>
        rw [e1] at e
        dsimp only at e
        cases e2 : ixN xs.length k with
        | none => rw [e2] at e; cases e
        | some j =>
          rw [e2] at e
          cases e
          obtain ⟨a, vs, ha, rfl, hA, rs⟩ := R.lst e1 ro
          obtain ⟨R2, ex⟩ := R.write (lstAt_of e1) ha (Reps.set j rs rv)
          exact ⟨a, vs, k, j, rfl, rfl, hA, by rw [Reps.length rs]; exact e2, q _ ex R2⟩
    | _ => cases e
  | _ => cases e
theorem s_sub {o i e : Expr} {mo mi mv : ME} {tpos : Pos} (ho : PE X o (tD X W mo)) (hi : PE X i (tD X W mi)) (he : PE X e (tD X W mv))
    (ha : ∀ v, assign (.Subscript o i tpos) X.env v = (do
      let ov ← holding [v] (eval o X.env)
      let iv ← holding [v, ov] (eval i X.env)
      standAt tpos
      holding [v, ov, iv] (setItem ov iv v)
      release [v, ov, iv] []) := by intro _; rfl)
    (hs : swapsWithSole [.Subscript o i tpos] e pos.line X.env = pure false := by rfl) (hw : swappedStores [.Subscript o i tpos] e X.env = pure none := by rfl) : PS X (.Assign [.Subscript o i tpos] e pos) (tSt X W (mSub mo mi mv)) := by
  refine ps_imp (ps_asg he (pg_sub ho hi set_list ha) hs hw) fun Dn σ H x => ?_
  refine tSt.step x fun α1 ρ H1 d h1 v R1 E1 r1 o1 => ?_
  refine ⟨α1, ρ, h1, R1, E1, OkS.into o1 E1 fun α2 H2 d2 h2 v2 e2 R2 r2 o2 => ?_⟩
  refine ⟨α2, ρ, h2, R2, E1.ext e2, OkS.into o2 (E1.ext e2) fun α3 H3 d3 h3 v3 e3 R3 r3 o3 => ?_⟩
  cases q : setF d2 d3 d h3 with
  | none => rw [q] at o3; exact o3.elim
  | some h4 =>
    rw [q] at o3
    exact setF_of R3 (Rep.ext e3 d2 r2) r3 (Rep.ext e3 d (Rep.ext e2 d r1)) q fun H' e4 R4 => o3 α3 σ H' e4 R4 (((E1.ext e2).ext e3).ext e4)
/-- xs[i] op= e, xs a list -/
def rGetL (K : PySem.W.Frag) : V → V → Hp → VK → Prop := fun x y H Q => ∃ p xs i v, x = .ref p ∧ y = .int i ∧ 0 ≤ i ∧ SqL K H p xs ∧ atI xs i = some v ∧ Q v H
theorem get_list : PGet X (rGetL X.K) := by
  intro pins s σ H o i ov iv Q I ro ri h
  obtain ⟨p, xs, k, z, rfl, rfl, h0, hq, he, q⟩ := h
  cases ro
  obtain ⟨t, rfl⟩ := ri
  obtain ⟨its, r, pl, hz⟩ := I.list hq
  obtain ⟨j, h1, h2, h3, h4, h5⟩ := atI_get he
  obtain ⟨w, ew, rw'⟩ := r.get h2
  have hl := r.length
  have hn := line63
  have hj : k.toNat = j := by
    rw [PySem.seqIndex_of h0 h5] at h1
    exact Option.some.inj h1
  exact wpAny_getItem_list pl.isList h0 (by omega) (by rw [hj]; simpa using ew) ⟨z, H, I, rw', q⟩
def getF (o i : D) (h : Sto) : R D := match o, i with
  | .ref n, .int k => if 0 ≤ k then (match anyAt h n with
    | some xs => match atI xs k with
      | some d => .ok d h
      | none => .no
    | none => .no) else .no
  | _, _ => .no
def mAugS (mo mi : ME) (f : D → D → Sto → R D) (mv : ME) : MS := fun ρ h => (mo ρ h).into ρ fun o h1 => (mi ρ h1).into ρ fun i h2 => (getF o i h2).into ρ fun x h3 => (mv ρ h3).into ρ fun y h4 => (f x y h4).into ρ fun z h5 => match setF o i z h5 with
  | some h6 => .nx ρ h6
  | none => .no
theorem s_augS {o i e : Expr} {mo mi mv : ME} {f : D → D → Sto → R D} {r : TIp} {op : Operator} {tpos : Pos} (ho : PE X o (tD X W mo)) (hi : PE X i (tD X W mi)) (hp : PIp X op r) (hf : OpI X f r) (he : PE X e (tD X W mv))
    (ha : ∀ ov iv new, augStore i ov iv new = (do holding [new, ov, iv] (setItem ov iv new); release [new, ov, iv] []; pure .next) := by intros; rfl) : PS X (.AugAssign (.Subscript o i tpos) op e pos) (tSt X W (mAugS mo mi f mv)) := by
  refine ps_imp (ps_augS ho hi get_list he hp set_list ha) fun Dn σ H x => ?_
  refine tSt.step x fun α1 ρ H1 o h1 vo R1 E1 r1 o1 => ?_
  refine ⟨α1, ρ, h1, R1, E1, OkS.into o1 E1 fun α2 H2 i h2 vi e2 R2 r2 o2 => ?_⟩
  have E2 := E1.ext e2
  cases q : getF o i h2 with
  | ex e h3 =>
    unfold getF at q
    split at q
    · split at q
      · split at q
        · split at q <;> cases q
        · cases q
      · cases q
    · cases q
  | no => rw [q] at o2; exact o2.elim
  | ok x h3 =>
    rw [q] at o2
    unfold getF at q
    split at q
    · rename_i n k
      split at q
      · rename_i hk
        split at q
        · rename_i xs e1
          split at q
          · rename_i d e5
            cases q
            cases (show vi = .int k from r2)
            obtain ⟨a, vs, _, rfl, hs, rs⟩ := R2.any e1 (Rep.ext e2 _ r1)
            obtain ⟨w, h5, h6⟩ := atI_rep rs e5
            refine ⟨a, vs, k, w, rfl, rfl, hk, hs, h5, ?_⟩
            refine ⟨α2, ρ, h2, R2, E2, OkS.into o2 E2 fun α3 H3 y h3 vy e3 R3 r3 o3 => ?_⟩
            refine hf W σ _ α3 h3 H3 x y w vy R3 (Rep.ext e3 x h6) r3 (OkS.into o3 (E2.ext e3) fun α4 H4 z h4 vz e4 R4 r4 o4 => ?_)
            cases q2 : setF (.ref n) (.int k) z h4 with
            | none => rw [q2] at o4; exact o4.elim
            | some h5 =>
              rw [q2] at o4
              exact setF_of R4 (Rep.ext e4 _ (Rep.ext e3 _ (Rep.ext e2 _ r1))) (Rep.ext e4 (.int k) (Rep.ext e3 (.int k) r2)) r4 q2 fun H' e5 R5 => o4 α4 σ H' e5 R5 (((E2.ext e3).ext e4).ext e5)
          · cases q
        · cases q
      · cases q
    · cases q
/-- a, b = x, y with plain local names -/
def mPar (i j : Nat) (m k : ME) : MS := fun ρ h => (m ρ h).into ρ fun x h1 => (k ρ h1).into ρ fun y h2 => .nx ((ρ.set i (some x)).set j (some y)) h2
theorem s_par (i j : Nat) {x y : Str} {a b : Expr} {m k : ME} {px py pt : Pos} {kt k2 pt2} (hc : X.calm = true) (hN : X.N.Nodup) (ha : PE X a (tD X W m)) (hb : PE X b (tD X W k))
    (hw : swappedStores [.Tuple [.Name x px, .Name y py] kt pt] (.Tuple [a, b] k2 pt2) X.env = pure (some [x, y]))
    (hi : X.N[i]? = some x := by rfl) (hj : X.N[j]? = some y := by rfl) (hij : i ≠ j := by decide) (hx : X.env.scope.names.lookup x = some .local := by rfl) (hy : X.env.scope.names.lookup y = some .local := by rfl)
    (hs1 : starEach [a, b] X.env = (false, eval a X.env) :: starEach [b] X.env := by rfl) (hs2 : starEach [b] X.env = (false, eval b X.env) :: starEach [] X.env := by rfl)
    (hs : swapsWithSole [.Tuple [.Name x px, .Name y py] kt pt] (.Tuple [a, b] k2 pt2) pos.line X.env = pure false := by rfl) :
    PS X (.Assign [.Tuple [.Name x px, .Name y py] kt pt] (.Tuple [a, b] k2 pt2) pos) (tSt X W (mPar i j m k)) := by
  refine ps_imp (ps_par hc hN hi hj hij hx hy (pa_cons ha (pa_cons hb pa_nil hs2) hs1) hw hs) fun Dn σ H x => ?_
  refine tSt.step x fun α1 ρ H1 d h1 v R1 E1 r1 o1 => ?_
  refine ⟨α1, ρ, h1, R1, E1, OkS.into o1 E1 fun α2 H2 d2 h2 v2 e2 R2 r2 o2 => ?_⟩
  exact ⟨v, v2, rfl, o2 α2 _ H2 .refl R2 (((E1.ext e2).set i (Rep.ext e2 d r1)).set j r2)⟩
/-- a, b, .. = e -/
def mUnp (t : Tg) (m : ME) : MS := fun ρ h => (m ρ h).into ρ fun d h1 => match setTg t d ρ h1 with
  | some ρ1 => .nx ρ1 h1
  | none => .no
theorem s_unp {tg e : Expr} {t : Tg} {m : ME} (he : PE X e (tD X W m)) (hg : PG X tg (gTg X.K t)) (hs : swapsWithSole [tg] e pos.line X.env = pure false := by rfl) (hw : swappedStores [tg] e X.env = pure none := by rfl)
    (h1 : (assignEach [tg] X.env).map (·.2) = [assign tg X.env] := by rfl) : PS X (.Assign [tg] e pos) (tSt X W (mUnp t m)) := by
  refine ps_imp (ps_asg he hg hs hw h1) fun Dn σ H x => ?_
  refine tSt.step x fun α1 ρ H1 d h1 v R1 E1 r1 o1 => ?_
  cases q : setTg t d ρ h1 with
  | none => rw [q] at o1; exact o1.elim
  | some ρ1 => rw [q] at o1; exact gTg_of R1 q r1 E1 fun vs _ E2 => o1 α1 _ H1 .refl R1 E2
/-- xs.append(e) -/
def mApp (mo : ME) (me : ME) : ME := fun ρ h => (mo ρ h).bind fun o h1 => match o with
  | .ref n => match lstAt h1 n with
    | some _ => (me ρ h1).bind fun y h2 => match lstAt h2 n with
      | some xs => if xs.length < 16777216 then .ok .non (h2.set n (.lst (xs ++ [y]))) else .no
      | none => .no
    | none => .no
  | _ => .no
theorem d_app {o e : Expr} {mo me : ME} {apos cpos : Pos} (ho : PE X o (tD X W mo)) (he : PE X e (tD X W me))
    (hbase : attributeBase o "append" X.env (eval o X.env) = eval o X.env := by rfl)
    (hfew : ((backTo cpos (starEach [e] X.env)).all (fun x => !x.1) && (backToKw cpos (keywordEach [] X.env)).all (fun x => x.1.isSome)
      && decide (([e] : List Expr).length + ([] : List Keyword).length + (if ([] : List Keyword).isEmpty then 0 else 1) < 30)) = true := by rfl)
    (hline : (apos.endLine == cpos.line) = true := by rfl) (hs : starEach [e] X.env = (false, eval e X.env) :: starEach [] X.env := by rfl) (hplain : (backTo cpos (starEach [] X.env)).any (·.1) = false := by rfl) :
    PE X (.Call (.Attribute o "append" apos) [e] [] cpos) (tD X W (mApp mo me)) := by
  refine pe_imp (pe_bm PySem.F.plainAttrs_list PySem.F.slot_list_append PySem.F.type_list_append mt_append ho (pa_cons he pa_nil hs) hbase hfew hline hs hplain) fun σ H Q x => ?_
  refine tG.step x fun α1 ρ H1 d h1 v R1 E1 r1 o1 => ?_
  cases d with
  | ref n =>
    dsimp only at o1
    cases e1 : lstAt h1 n with
    | none => rw [e1] at o1; exact o1.elim
    | some ys =>
      rw [e1] at o1
      dsimp only at o1
      obtain ⟨a, vs, ha, rfl, hA, rs⟩ := R1.lst e1 r1
      refine ⟨.inl ⟨rfl, _, SqL.of hA⟩, α1, ρ, h1, R1, E1, OkG.bind o1 fun α2 H2 y h2 u e2 R2 r2 o2 => ?_⟩
      cases e3 : lstAt h2 n with
      | none => rw [e3] at o2; exact o2.elim
      | some xs =>
        rw [e3] at o2
        dsimp only at o2
        by_cases hz : xs.length < 16777216
        · simp only [hz, if_true] at o2
          obtain ⟨b, us, hb, hab, hB, rx⟩ := R2.lst e3 (Rep.ext e2 _ r1)
          cases hab
          obtain ⟨R3, e4⟩ := R2.write (lstAt_of e3) hb (Reps.append rx (Reps.one r2))
          exact ⟨a, us, u, rfl, rfl, hB, by rw [sizeLine_eq, Reps.length rx]; exact hz, o2 α2 _ _ e4 R3 rfl⟩
        · simp only [hz, if_false] at o2
          exact o2.elim
  | _ => exact o1.elim
end

/-! ### defs -/
/-- what a def promises: g of its arguments and the store -/
def spD (K : PySem.W.Frag) (mg : Str → Option Value) (n : Nat) (g : List D → Sto → R D) : Sp := fun vs H Q E => ∃ α h ds, RelH K α h H ∧ Reps K α H ds vs ∧ ds.length = n ∧ OkG K mg (fun cls dd _ H' => E cls dd H') [] (Rep K) Q α H (g ds h)
theorem spD_len {K : PySem.W.Frag} {mg : Str → Option Value} {n : Nat} {g : List D → Sto → R D} : ∀ vs H Q E, spD K mg n g vs H Q E → vs.length = n := fun vs H Q E ⟨α, h, ds, R, r, l, _⟩ => by rw [Reps.length r, l]
theorem OkG.wish {K : PySem.W.Frag} {mg : Str → Option Value} {W W' : WX} {σ σ' : L2.St} {β γ : Type} {rep : List Addr → Hp → β → γ → Prop} {Q : γ → Hp → Prop} {α : List Addr} {H : Hp} {r : R β} (x : OkG K mg W σ rep Q α H r) (hw : ∀ c d H', W c d σ H' → W' c d σ' H') : OkG K mg W' σ' rep Q α H r := by
  cases r with
  | ok b h' => exact x
  | ex b h' => exact fun α' H' c d e r p => hw _ _ _ (x α' H' c d e r p)
  | no => exact x
def mFn (n : Nat) (g : List D → Sto → R D) (k : MA) : ME := fun ρ h => (k ρ h).bind fun ds h1 => if ds.length = n then g ds h1 else .no
section
variable {X : Cx} {W : WX} {pos p : Pos} {x : Str} {e : Expr} {es : List Expr} {m : MA} {k : Nat} {f : Addr} {fd : FuncData} {ps : List Str} {n : Nat} {g : List D → Sto → R D}
theorem d_fn (F : FnOk X.prog X.w X.K X.mg X.base (L2.CX X.prog X.w) k f fd ps (spD X.K X.mg n g)) (hr : Room k X.A) (hm : X.mg x = some (.ref f)) (hk : PySem.W.keepIn X.K (.ref f) = true) (hb : Binds X.K fd ps []) (tk : Takes X W) (ha : PA X (e :: es) (tDs X W m)) (hg : Gl X x := by rfl)
    (hdb : (x == ("__debug__" : Str)) = false := by decide) (he : starEach (e :: es) X.env = (false, eval e X.env) :: starEach es X.env := by rfl) (hpl : (backTo pos (starEach es X.env)).any (·.1) = false := by rfl) :
    PE X (.Call (.Name x p) (e :: es) [] pos) (tD X W (mFn n g m)) := by
  refine pe_imp (pe_callS (E := WE W) F hr hg hm hk hb (fun σ => passAt tk σ) ha hdb he hpl) fun σ H Q x => ?_
  refine tG.step x fun α1 ρ H1 ds h1 vs R1 E1 r1 o1 => ?_
  split at o1
  · rename_i hl
    exact ⟨α1, h1, ds, R1, r1, hl, o1.wish fun c d H' h => h⟩
  · exact o1.elim
/-- f(): a def that lets nothing out -/
def mFn0 (g : List D → Sto → R D) : ME := fun _ h => match g [] h with
  | .ok d h' => .ok d h'
  | _ => .no
theorem d_fn0 (F : FnOk X.prog X.w X.K X.mg X.base (L2.CX X.prog X.w) k f fd [] (spD X.K X.mg 0 g)) (hr : Room k X.A) (hm : X.mg x = some (.ref f)) (hk : PySem.W.keepIn X.K (.ref f) = true) (hb : Binds X.K fd [] []) (hg : Gl X x := by rfl)
    (hdb : (x == ("__debug__" : Str)) = false := by decide) : PE X (.Call (.Name x p) [] [] pos) (tD X W (mFn0 g)) := by
  refine pe_imp (pe_call0 F hr hg hm hk hb .nil passL hdb) fun σ H Q x => ?_
  obtain ⟨α, ρ, h, R, E, o⟩ := x
  unfold mFn0 at o
  refine ⟨α, h, [], R, rfl, rfl, ?_⟩
  cases q : g [] h with
  | ok d h' => rw [q] at o; exact o
  | ex d h' => rw [q] at o; exact o.elim
  | no => rw [q] at o; exact o.elim
end
/-- a def's run: n names -/
def runM (n : Nat) (m : MS) (ds : List D) (h : Sto) : R D := match m (ds.map some ++ List.replicate (n - ds.length) none) h with
  | .rt d h' => .ok d h'
  | .nx _ h' => .ok .non h'
  | .ex e _ h' => .ex e h'
  | _ => .no
theorem start_rel {K : PySem.W.Frag} {α : List Addr} {H : Hp} {N : List Str} {ds : List D} {vs : List V} (r : Reps K α H ds vs) : RelE K α H (ds.map some ++ List.replicate (N.length - ds.length) none) (L2.start N vs) := by
  have hl := Reps.length r
  refine ⟨by unfold L2.start; simp [hl], fun i d e => ?_⟩
  unfold L2.start
  by_cases hi : i < ds.length
  · rw [List.getElem?_append_left (by simpa using hi), List.getElem?_map] at e
    cases q : ds[i]? with
    | none => rw [q] at e; cases e
    | some d' =>
      rw [q] at e
      cases e
      obtain ⟨v, h1, h2⟩ := Reps.get r q
      exact ⟨v, by rw [List.getElem?_append_left (by simp; omega), List.getElem?_map, h1]; rfl, h2⟩
  · rw [List.getElem?_append_right (by simpa using hi), List.getElem?_replicate] at e
    split at e <;> cases e
section
variable {P : Program} {w : World} {K : PySem.W.Frag} {mg : Str → Option Value} {base : Heap}
theorem fn_ok {x qual : Str} {st : Stmt} {f : Addr} {fd : FuncData} {N ps : List Str} {k : Nat} {m : MS} (F : Fun K x qual st f fd) (S : FnScope N ps (defScope st))
    (body : ∀ (cdv : Value) (A : Around) (outer : List Env) (s : Shared) (H : Hp) (E : XK), Room k (A.deeper (PyProof.Rows.envOfC qual (defScope st) s.heap.objs.size f cdv)) →
      Takes (cxOf (L2.CX P w) P w K mg base N qual (defScope st) f cdv A outer s H E) (fun cls dd _ H' => E cls dd H') →
      PassesOwn (model P w) (A.deeper (PyProof.Rows.envOfC qual (defScope st) s.heap.objs.size f cdv)) (PyProof.Rows.envOfC qual (defScope st) s.heap.objs.size f cdv) (cxOf (L2.CX P w) P w K mg base N qual (defScope st) f cdv A outer s H E).xe →
      PSs (cxOf (L2.CX P w) P w K mg base N qual (defScope st) f cdv A outer s H E) (defBody st) (tSt (cxOf (L2.CX P w) P w K mg base N qual (defScope st) f cdv A outer s H E) (fun cls dd _ H' => E cls dd H') m)) :
    FnOk P w K mg base (L2.CX P w) (k + 1) f fd ps (spD K mg ps.length (runM N.length m)) := by
  refine F.okX S spD_len fun cdv A outer s H vs Q E hr h => ?_
  refine ⟨_, body cdv A outer s H E hr (takes_of rfl rfl rfl rfl) (passes_of rfl), ?_⟩
  obtain ⟨α, h, ds, R, r, l, o⟩ := h
  refine ⟨α, _, h, R, start_rel r, ?_⟩
  unfold runM at o
  cases q : m (ds.map some ++ List.replicate (N.length - ds.length) none) h with
  | nx ρ h' => rw [q] at o; exact fun α' σ' H' e R' E' => o α' H' .non e R' rfl
  | rt d h' => rw [q] at o; exact o
  | ex e ρ h' => rw [q] at o; exact fun α' σ' H' cls dd e R' E' p => o α' H' cls dd e R' p
  | bk ρ h' => rw [q] at o; exact o.elim
  | ct ρ h' => rw [q] at o; exact o.elim
  | no => rw [q] at o; exact o.elim
end
end Ml
/-! The mill, part 9: more statements and short words. -/
namespace Ml
open PySem PySem.Spec L2

theorem u65 {k : Nat} {A : Around} (r : Room k A) : A.units + 65 < cLine := by have := r.un; omega
section
variable {X : Cx} {W : WX} {pos p : Pos}
/-- code that is never reached -/
def mNo : MS := fun _ _ => .no
theorem s_no {st : Stmt} : PS X st (tSt X W mNo) := ps_imp (ps_never (X := X) (st := st)) fun Dn σ H x => by
  obtain ⟨α, ρ, h, R, E, o⟩ := x
  exact o.elim
/-- -a -/
def negD : D → Sto → R D
  | .int i, h => .ok (.int (-i)) h
  | _, _ => .no
def mNeg (m : ME) : ME := fun ρ h => (m ρ h).bind negD
theorem d_neg {a : Expr} {m : ME} (ha : PE X a (tD X W m)) : PE X (.UnaryOp .USub a pos) (tD X W (mNeg m)) := by
  refine pe_imp (pe_un un_neg ha) fun σ H Q x => ?_
  obtain ⟨α, ρ, h, R, E, o⟩ := x
  refine ⟨α, ρ, h, R, E, OkG.bind (k := negD) o fun α1 H1 d h1 v e1 R1 r1 o1 => ?_⟩
  cases d with
  | int i =>
    cases (show v = .int i from r1)
    exact ⟨i, rfl, o1 α1 H1 _ .refl R1 rfl⟩
  | _ => exact o1.elim
/-- a, b, c = x, y, z with plain local names: stored from the right -/
def tPar3 (i j k : Nat) (ta : TA) : TS := fun D σ H => ta σ H fun vs H1 => ∃ v w u, vs = [v, w, u] ∧ D.nx (((σ.set i (some v)).set j (some w)).set k (some u)) H1
theorem ps_par3 {i j k : Nat} {x y z : Str} {a b c : Expr} {ta : TA} {px py pz pt : Pos} {kt k2 pt2} (hc : X.calm = true) (hN : X.N.Nodup) (hi : X.N[i]? = some x) (hj : X.N[j]? = some y) (hk : X.N[k]? = some z) (hij : i ≠ j) (hik : i ≠ k) (hjk : j ≠ k)
    (hx : X.env.scope.names.lookup x = some .local) (hy : X.env.scope.names.lookup y = some .local) (hz : X.env.scope.names.lookup z = some .local) (ha : PA X [a, b, c] ta)
    (hw : swappedStores [.Tuple [.Name x px, .Name y py, .Name z pz] kt pt] (.Tuple [a, b, c] k2 pt2) X.env = pure (some [x, y, z]))
    (hs : swapsWithSole [.Tuple [.Name x px, .Name y py, .Name z pz] kt pt] (.Tuple [a, b, c] k2 pt2) pos.line X.env = pure false := by rfl) :
    PS X (.Assign [.Tuple [.Name x px, .Name y py, .Name z pz] kt pt] (.Tuple [a, b, c] k2 pt2) pos) (tPar3 i j k ta) := by
  refine ⟨fun pins s σ H D I h => ?_⟩
  rw [PySem.exec_Assign_arm]
  refine wpAny_bind (wpAny_standAt ?_)
  rw [hs]
  refine wpAny_bind (wpAny_pure ?_)
  rw [if_neg (by decide)]
  refine wpAny_bind (PyProof.Rows.Tuple_ (thn (ha.run _ pins s σ H _ I h) fun us s1 ⟨vs, H1, I1, r1, q1⟩ => ?_))
  obtain ⟨v, w, q, e1, q1⟩ := q1
  subst e1
  obtain ⟨u1, u2, u3, rfl, rv, rw', rq⟩ : ∃ u1 u2 u3, us = [u1, u2, u3] ∧ RelV v u1 ∧ RelV w u2 ∧ RelV q u3 := by
    cases r1 with
    | cons p q =>
      cases q with
      | cons p' q' =>
        cases q' with
        | cons p'' q'' =>
          cases q''
          exact ⟨_, _, _, rfl, p, p', p''⟩
  refine wpAny_newObj_type ?_ (by show 3 ≤ sizeLine; decide)
  have I2 : Inv X pins σ H1 { s1 with heap := s1.heap.push { cls := .type "tuple", data := .seq [u1, u2, u3].toArray } } := I1.kept (t' := s1.toks) fun b o e => Heap.get?_push_of_some _ e
  rw [hw]
  refine wpAny_bind (wpAny_pure ?_)
  show wpAny (model X.prog X.w) X.A (do rule "assign.swapped-stores"; let items ← unpackItems (.ref s1.heap.objs.size) 3 none; assignInOrder [fun v => bindName X.env z v, fun v => bindName X.env y v, fun v => bindName X.env x v] items.reverse; pure Flow.next) _ _ _
  refine wpAny_bind (wpAny_rule (wpAny_bind (PyProof.Rows.unpackItems_tuple (items := #[u1, u2, u3]) (I.ok.hd hc) (PyProof.Rows.IsTup.new s1.heap _) fun h' hx' => ?_)))
  have I3 := I2.kept (h' := h') (t' := s1.toks) fun b o e => hx' b o (Nat.ne_of_lt (Heap.lt_size e)) e
  show wpAny _ _ (assignInOrder [fun v => bindName X.env z v, fun v => bindName X.env y v, fun v => bindName X.env x v] [u3, u2, u1] >>= fun _ => pure Flow.next) _ _ _
  refine wpAny_bind (PyProof.Rows.assignInOrder_cons (wpAny_bindName (store_ok I3 hN hk (.inl hz) rq (fun s2 I4 => ?_) (.inr hz))))
  refine PyProof.Rows.assignInOrder_cons (wpAny_bindName (store_ok I4 hN hj (.inl hy) rw' (fun s3 I5 => ?_) (.inr hy)))
  refine PyProof.Rows.assignInOrder_cons (wpAny_bindName (store_ok I5 hN hi (.inl hx) rv (fun s4 I6 => PyProof.Rows.assignInOrder_nil (wpAny_pure ?_)) (.inr hx)))
  have e : ((σ.set k (some q)).set j (some w)).set i (some v) = ((σ.set i (some v)).set j (some w)).set k (some q) := by
    rw [List.set_comm _ _ (Ne.symm hjk), List.set_comm (l := (σ.set j (some w))) _ _ (Ne.symm hik), List.set_comm (l := σ) _ _ (Ne.symm hij)]
  rw [e] at I6
  exact ⟨_, H1, I6, q1⟩
def mPar3 (i j k : Nat) (m n l : ME) : MS := fun ρ h => (m ρ h).into ρ fun x h1 => (n ρ h1).into ρ fun y h2 => (l ρ h2).into ρ fun z h3 => .nx (((ρ.set i (some x)).set j (some y)).set k (some z)) h3
theorem s_par3 (i j k : Nat) {x y z : Str} {a b c : Expr} {m n l : ME} {px py pz pt : Pos} {kt k2 pt2} (hc : X.calm = true) (hN : X.N.Nodup) (ha : PE X a (tD X W m)) (hb : PE X b (tD X W n)) (hcc : PE X c (tD X W l))
    (hw : swappedStores [.Tuple [.Name x px, .Name y py, .Name z pz] kt pt] (.Tuple [a, b, c] k2 pt2) X.env = pure (some [x, y, z]))
    (hi : X.N[i]? = some x := by rfl) (hj : X.N[j]? = some y := by rfl) (hk : X.N[k]? = some z := by rfl) (hij : i ≠ j := by decide) (hik : i ≠ k := by decide) (hjk : j ≠ k := by decide)
    (hx : X.env.scope.names.lookup x = some .local := by rfl) (hy : X.env.scope.names.lookup y = some .local := by rfl) (hz : X.env.scope.names.lookup z = some .local := by rfl)
    (hs1 : starEach [a, b, c] X.env = (false, eval a X.env) :: starEach [b, c] X.env := by rfl) (hs2 : starEach [b, c] X.env = (false, eval b X.env) :: starEach [c] X.env := by rfl) (hs3 : starEach [c] X.env = (false, eval c X.env) :: starEach [] X.env := by rfl)
    (hs : swapsWithSole [.Tuple [.Name x px, .Name y py, .Name z pz] kt pt] (.Tuple [a, b, c] k2 pt2) pos.line X.env = pure false := by rfl) :
    PS X (.Assign [.Tuple [.Name x px, .Name y py, .Name z pz] kt pt] (.Tuple [a, b, c] k2 pt2) pos) (tSt X W (mPar3 i j k m n l)) := by
  refine ps_imp (ps_par3 hc hN hi hj hk hij hik hjk hx hy hz (pa_cons ha (pa_cons hb (pa_cons hcc pa_nil hs3) hs2) hs1) hw hs) fun Dn σ H x => ?_
  refine tSt.step x fun α1 ρ H1 d h1 v R1 E1 r1 o1 => ?_
  refine ⟨α1, ρ, h1, R1, E1, OkS.into o1 E1 fun α2 H2 d2 h2 v2 e2 R2 r2 o2 => ?_⟩
  refine ⟨α2, ρ, h2, R2, E1.ext e2, OkS.into o2 (E1.ext e2) fun α3 H3 d3 h3 v3 e3 R3 r3 o3 => ?_⟩
  exact ⟨v, v2, v3, rfl, o3 α3 _ H3 .refl R3 (((((E1.ext e2).ext e3).set i (Rep.ext e3 d (Rep.ext e2 d r1))).set j (Rep.ext e3 d2 r2)).set k r3)⟩
end
/-- nothing is promised -/
theorem fn_no {P : Program} {w : World} {K : PySem.W.Frag} {mg : Str → Option Value} {base : Heap} {k n : Nat} {f : Addr} {fd : FuncData} {ps : List Str} (hn : ps.length = n) : FnOk P w K mg base (L2.CX P w) k f fd ps (spD K mg n fun _ _ => .no) :=
  ⟨fun vs H Q E ⟨α, h, ds, R, r, l, o⟩ => by rw [Reps.length r, l, hn], fun A outer s H args us vs Q E _ _ _ _ ⟨α, h, ds, R, r, l, o⟩ => o.elim⟩
/-- another telling of the same -/
theorem fn_imp {P : Program} {w : World} {K : PySem.W.Frag} {mg : Str → Option Value} {base : Heap} {k n : Nat} {f : Addr} {fd : FuncData} {ps : List Str} {g g' : List D → Sto → R D} (F : FnOk P w K mg base (L2.CX P w) k f fd ps (spD K mg n g))
    (h : ∀ α h H ds vs (Q : VK) (E : XK), RelH K α h H → Reps K α H ds vs → ds.length = n → OkG K mg (fun cls dd _ H' => E cls dd H') [] (Rep K) Q α H (g' ds h) → OkG K mg (fun cls dd _ H' => E cls dd H') [] (Rep K) Q α H (g ds h)) :
    FnOk P w K mg base (L2.CX P w) k f fd ps (spD K mg n g') :=
  F.imp fun vs H Q E ⟨α, s, ds, R, r, l, o⟩ => ⟨α, s, ds, R, r, l, h α s H ds vs Q E R r l o⟩
end Ml
/-! The mill, part 10: the end of a law. -/
namespace Ml
open PySem PySem.Spec L2

theorem only_sqR {K : PySem.W.Frag} {H : Hp} {a : Addr} {xs : List V} (o : Only H) (s : SqL K H a xs) : SqR K H a xs := by
  rcases s with (h | h) | h
  · rcases o a with e | ⟨o', ys, e⟩
    · rw [h] at e; cases e
    · rw [h] at e; cases e
  · exact .inl h
  · exact .inr h
theorem reps_ints {K : PySem.W.Frag} {α : List Addr} {H : Hp} : ∀ ns : List Int, Reps K α H (ns.map D.int) (ns.map V.int)
  | [] => rfl
  | n :: ns => ⟨.int n, _, rfl, rfl, reps_ints ns⟩
/-- the script, the only list that there is -/
theorem rel_script {K : PySem.W.Frag} {H : Hp} {a : Addr} {ns : List Int} (s : SqR K H a (ns.map V.int)) : RelH K [a] [.ro (ns.map D.int)] H := by
  refine ⟨fun i j b xs ys h1 h2 h3 h4 => ?_, rfl, fun i xs h => ?_, fun i c h => ?_⟩
  · cases i with
    | zero => cases h1
    | succ i => cases h1
  · cases i with
    | zero => cases h; exact ⟨ns, rfl⟩
    | succ i => cases h
  · cases i with
    | zero => cases h; exact ⟨a, rfl, _, s, reps_ints ns⟩
    | succ i => cases h
/-- what a law promises -/
def spLaw (K : PySem.W.Frag) : Sp := fun vs H Q _ => ∃ (a : Addr) (ns : List Int), vs = [.ref a] ∧ ns.length ≤ 63 ∧ SqR K H a (ns.map V.int) ∧ ∀ H', Q (.bl true) H'
/-- the law's function says True of every script -/
def Good (g : List D → Sto → R D) : Prop := ∀ ns : List Int, ns.length ≤ 63 → ∃ h', g [.ref 0] [.ro (ns.map D.int)] = .ok (.bl true) h'
theorem law_end {P : Program} {w : World} {K : PySem.W.Frag} {mg : Str → Option Value} {base : Heap} {k : Nat} {f : Addr} {fd : FuncData} {ps : List Str} {g : List D → Sto → R D} (F : FnOk P w K mg base (L2.CX P w) k f fd ps (spD K mg 1 g)) (hg : Good g) :
    FnOk P w K mg base (L2.CX P w) k f fd ps (spLaw K) := by
  refine F.imp fun vs H Q E ⟨a, ns, e, hl, s, q⟩ => ?_
  subst e
  obtain ⟨h', e'⟩ := hg ns hl
  refine ⟨[a], [.ro (ns.map D.int)], [.ref 0], rel_script s, ⟨.ref a, [], rfl, ⟨a, rfl, rfl⟩, rfl⟩, rfl, ?_⟩
  rw [e']
  intro α' H' c _ _ r
  cases (show c = .bl true from r)
  exact q H'
theorem no_exc {P : Program} {w : World} {H : Hp} {s : Shared} {e : Value} {s' : Shared} (h : L2.CX P w [] H s (fun _ _ _ => False) e s') : False := by
  unfold L2.CX at h
  simp at h
theorem walk_law {l : PySem.W.OpenLaw} {k : Nat} {q : Program} {loose : List Str} {XP : (Str → Option Value) → Heap → Prop} {YP : World → Heap → Prop} {d : DefRec} {K : Params → PySem.W.Frag} (hn : l.most = some 63) (hdf : d.params.defaults = []) (hr : Room k callerA)
    (hY : ∀ (w : World) (h : Heap), YP w h → (K w.params).In h)
    (F : ∀ (w : World) (mg : Str → Option Value) (fa : Addr) (h : Heap), (K w.params).In h → h.Ns mainGlobals mg → mg d.name = some (.ref fa) →
      ∃ fd : FuncData, (∀ (s : Shared) (u : Value), BindsTo s fd ⟨[u], []⟩ [("script", u)]) ∧ ∀ base : Heap, (K w.params).In base → base.Ns mainGlobals mg → FnOk l.prog w (K w.params) mg base (L2.CX l.prog w) k fa fd ["script"] (spLaw (K w.params))) :
    PySem.W.WalkO q loose XP YP l.row.toRowW d [] (fun f vs => PySem.call f vs) :=
  L2.walk_of (n := 63) (k := k) (x := "script") (CX := fun w => L2.CX l.prog w) (sp := fun w => spLaw (K w.params)) hn (by decide) hdf hr hY F (fun _ _ a ns hl o s => ⟨a, ns, rfl, hl, only_sqR o s, fun _ => rfl⟩) fun _ _ _ _ _ h => no_exc h
end Ml
/-! The mill, part 11: own exceptions over a built-in one, with an own __init__. -/
namespace PySem
namespace Mx
open PySem.W PySem.Calls PyProof.Rows PySem.HandSPX
section
open Builtin Builtin.ObjectAttr
variable {prog : Program} {w : World} {A : Around} {R : Result → Shared → Prop} {hp : Heap} {g : Array GenState} {d : Drawn} {t : Nat} {os : OsState}
/-- the first field of an exception, whatever its base -/
theorem first_field {K : W.Frag} {name : Str} {tk : Tok} {v : Value} {x C : Addr} {fv : Array Value} {B : String} {bmB : List Value} (SF : StoreFacts B bmB "object.__setattr__" "object")
    (X : K.In hp) (over : W.excOver K C bmB = true) (hdc : W.hasDictIn K C = true) (no : W.findIn K (.ref C) name = some none) (at_ : hp.get? x = some { cls := .ref C, data := .fields fv })
    (k : ∀ h' tk' dx, (∀ b o, b ≠ x → hp.get? b = some o → h'.get? b = some o) → hp.objs.size ≤ dx → dx ≠ x → h'.get? x = some { cls := .ref C, dict := some dx, data := .fields fv } → h'.Ns1 dx (fun y => if y = name then some v else none) → R (.ok (.ret .none)) ⟨h', g, d, tk', os⟩) :
    codeAny (model prog w) A (.call (.builtin "object.__setattr__") ⟨[.ref x, .str name tk, v], []⟩) R ⟨hp, g, d, t, os⟩ := by
  have I : W.InstAt hp x { cls := .ref C, data := .fields fv } C none := ⟨at_, rfl, rfl, trivial⟩
  have far : x ≠ hp.objs.size := Nat.ne_of_lt (Heap.lt_size at_)
  obtain ⟨cd, hcd, hh⟩ := any_some hdc
  have see : W.Looks (model prog w) hp (classData C) cd := W.looks_clsIn X hcd
  refine osa_openX SF X I over (r := none) (by unfold takerIn; rw [no]; rfl) fun b => ?_
  obtain ⟨nm, bs, mro, ns, qn, hd, sn, sb, ab, col, del⟩ := cd
  dsimp only at hh
  subst hh
  show wpAny _ _ (storeInOwnDict (.ref x) (.ref C) (.str name tk) name v b) _ _ _
  unfold storeInOwnDict ownDictForStores
  repeat (first | with_reducible refine see.at ?_ | with_reducible refine store_in_new ?_ ?_ | with_reducible refine wpAny_loadPart_at at_ ?_ | wp_step)
  · exact ⟨_, #[], _, (Heap.get?_update_ne _ _ _ _ far.symm).trans (Heap.get?_push_at rfl rfl), rfl, fun e he => absurd he (by simp), fun _ => rfl⟩
  · intro h' tk' ns' same
    have there : (hp.push { cls := .type "dict", data := .dict #[] }).get? x = some { cls := .ref C, data := .fields fv } := Heap.get?_push_of_some _ at_
    exact k h' tk' hp.objs.size (fun b o hb ho => (same.2 b (Nat.ne_of_lt (Heap.lt_size ho))).trans ((Heap.get?_update_ne _ _ _ _ hb).trans (Heap.get?_push_of_some _ ho))) (Nat.le_refl _) far.symm ((same.2 x far).trans (Heap.get?_update_self _ there rfl)) ns'
end
end Mx
end PySem
namespace Ml
open PySem PySem.Spec L2

/-- what the written part says of an own exception class at C over the built-in one B -/
structure XC (K : PySem.W.Frag) (C : Addr) (newId : String) (bmB : List Value) : Prop where
  ini : PySem.W.excInitIn K C bmB newId = true
  over : PySem.W.excOver K C bmB = true
  sa : PySem.W.findIn K (.ref C) "__setattr__" = some (some (.builtin "object.__setattr__"))
  hd : PySem.W.hasDictIn K C = true
  exC : PySem.W.subIn K (.ref C) (.type "BaseException") = some true
  tyC : PySem.W.typeIn K (.ref C) = some (.type "type")
  kC : PySem.W.keepIn K (.ref C) = true
section
variable {X : Cx} {pins : List (Addr × Obj)} {σ : L2.St} {H : Hp} {s : Shared} {a C : Addr} {B newId initId : String} {bmB : List Value} {A : Around} {E : Value → Shared → Prop}
/-- B.__init__(self, ..) -/
theorem base_init (F : ExcBaseFacts B newId initId bmB) (T : XC X.K C newId bmB) (I : L2.Inv X pins σ H s) (e : H a = some (exo a C none)) {us : List Value} {Q : Value → Shared → Prop} (small : us.length ≤ sizeLine) (k : ∀ s', L2.Inv X pins σ H s' → Q .none s') :
    wpAny (model X.prog X.w) A (call (.builtin initId) (.ref a :: us)) Q E s := by
  obtain ⟨t1, ho⟩ := exo_at I.hok e
  obtain ⟨_, _, _, _, _, _, _, _, _, _, _, _, _, _, _, _, hC, hT⟩ := PySem.W.excInit_of I.kIn T.ini
  obtain ⟨hp, g, d, t, os⟩ := s
  refine wpAny_call (PySem.HandSPX.init_base F hT hC ho small fun h' t2 kp hx => k _ ?_)
  have J := I.write (t' := t) (x := a) (e := a) (o := exo a C none) (by rw [e]; exact True.intro) (.inl rfl) kp ⟨_, hx⟩ (exo_ok hx)
  have same : upd H a (exo a C none) = H := funext fun b => if hb : b = a then by rw [hb, upd_same, e] else upd_ne hb
  rwa [same] at J
/-- self.f = y, the first field -/
theorem base_field (SF : StoreFacts B bmB "object.__setattr__" "object") (T : XC X.K C newId bmB) (I : L2.Inv X pins σ H s) (e : H a = some (exo a C none)) {f : Str} {y : V} {u : Value} {Q : Unit → Shared → Prop} (no : PySem.W.findIn X.K (.ref C) f = some none) (ry : RelV y u)
    (k : ∀ dx s', H dx = none → dx ≠ a → L2.Inv X pins σ (upd (upd H dx (exd dx [(f, y)])) a (exo a C (some dx))) s' → Q () s') : wpAny (model X.prog X.w) A (setAttr (.ref a) f u) Q E s := by
  obtain ⟨t1, ho⟩ := exo_at I.hok e
  obtain ⟨hp, g, d, t, os⟩ := s
  refine PySem.W.set_plain I.kIn (ox := { cls := .ref C, dict := none, data := .fields #[.ref t1, .none, .none, .none, .bool false, .none] }) (od := none) ⟨ho, rfl, rfl, trivial⟩ T.sa ?_
  refine PySem.Mx.first_field SF I.kIn T.over T.hd no ho fun h' tk' dx kp far ne hx hn => ?_
  have fresh : H dx = none := I.hok.fresh far
  have old : ∀ {b : Addr} {o : Obj}, hp.get? b = some o → b ≠ dx := fun q => Nat.ne_of_lt (Nat.lt_of_lt_of_le (Heap.lt_size q) far)
  have off : ∀ {b : Addr}, H b = none → b ≠ a := fun n z => by rw [z, e] at n; cases n
  have U : Un X.fs [] H (upd (upd H dx (exd dx [(f, y)])) a (exo a C (some dx))) hp h' :=
    { keep := fun b o q n _ _ => kp b o (off n) q
      slot := fun b o q n _ _ => ⟨o.slots, kp b o (off n) q⟩
      free := fun b o q n _ => by rw [upd_ne (off n), upd_ne (old q)]; exact n
      there := fun b o q _ => by
        rcases Nat.decEq b a with hb | hb
        · exact ⟨o, kp b o hb q⟩
        · subst hb; exact ⟨_, hx⟩
      tups := fun b xs q => by rw [upd_ne (at_ne e q exo_tup), upd_ne (ne_of_none q fresh)]; exact q
      frzs := fun b o v q => by rw [upd_ne (at_ne e q exo_frz), upd_ne (ne_of_none q fresh)]; exact q
      tbls := fun b ps q => ⟨#[], by rw [upd_ne (at_ne e q exo_tbl), upd_ne (ne_of_none q fresh), q]; simp⟩ }
  refine k dx _ fresh ne (I.un (t' := tk') U fun b o q => ?_)
  by_cases hb : b = a
  · subst hb; rw [upd_same] at q; cases q; exact exo_ok hx
  · rw [upd_ne hb] at q
    by_cases hd : b = dx
    · subst hd; rw [upd_same] at q; cases q; exact exd_ok hn (relO_put (fs := []) ry fun g => True.intro)
    · rw [upd_ne hd] at q
      exact (I.hok b o q).stay (fun c v hc z => kp c v (hc.elim (fun z => z ▸ hb) fun z => at_ne e z exo_own) z)
        (fun c hc => by rw [upd_ne (at_ne e hc exo_own), upd_ne (ne_of_none hc fresh)]; exact hc) fun c xs hc => by rw [upd_ne (at_ne e hc exo_tup), upd_ne (ne_of_none hc fresh)]; exact hc
end
section
variable {X : Cx} {C : Addr} {B newId initId : String} {bmB : List Value} {e : Expr} {es : List Expr} {ta : TA} {to te : TE} {p1 p2 pos : Pos}
/-- B.__init__(self, ..) -/
def tBi (K : PySem.W.Frag) (C : Addr) (ta : TA) : TE := fun σ H Q => ta σ H fun vs H1 => ∃ (a : Addr) (ws : List V), vs = .ref a :: ws ∧ ws.length ≤ 1000 ∧ H1 a = some (exo a C none) ∧ Q .non H1
theorem pe_binit {x : Str} {pl : Sem Bool} (F : ExcBaseFacts B newId initId bmB) (T : XC X.K C newId bmB) (ty : typeOf (.type B) = pure (.type "type")) (bo : bootBuiltins x = some (.type B)) (hn : x ≠ "__name__") (hdb : (x == ("__debug__" : Str)) = false) (vV : PySem.W.findCls X.K (.type B) (.type "type") "__init__" = some (.val (.builtin initId)))
    (hst : Manifest.isStub B = false) (hhd : PySem.W.handedIn (.builtin initId) = true) (hg : Gl X x) (hm : X.mg x = none) (ha : PA X (e :: es) ta)
    (hc : eval (.Call (.Attribute (.Name x p1) "__init__" p2) (e :: es) [] pos) X.env = (do
      let ov ← eval (.Name x p1) X.env
      standAt p2.atName
      let (f, first) ← holding [ov] (getMethod ov "__init__" pl)
      callWith pos f first (backTo pos (starEach (e :: es) X.env)) (backToKw pos (keywordEach [] X.env))) := by rfl)
    (he : starEach (e :: es) X.env = (false, eval e X.env) :: starEach es X.env := by rfl) (hpl : (backTo pos (starEach es X.env)).any (·.1) = false := by rfl) :
    PE X (.Call (.Attribute (.Name x p1) "__init__" p2) (e :: es) [] pos) (tBi X.K C ta) := by
  refine ⟨fun pins s σ H Q I h => PySem.W.methodCall_KW (ld_blt I hg hm bo ?_ hn hdb) hc⟩
  obtain ⟨m, fr⟩ := I.fr
  refine PySem.W.method_type fr I.ok.mod.kin ty hst vV hhd ?_
  show wpAny _ _ (callWith pos (Value.builtin initId) [] (backTo pos (starEach (e :: es) X.env)) []) _ _ _
  refine PyProof.Rows.callWith_method1 (thn (ha.run pos pins _ σ H _ (I.tok _) h) fun us s1 ⟨vs, H1, I1, r1, a, ws, ev, hl, ea, q⟩ => ?_) he hpl
  subst ev
  cases r1 with
  | @cons _ u0 _ ur ra rr =>
    cases (show u0 = Value.ref a from ra)
    exact base_init F T I1 ea (by rw [← Paired.length rr, sizeLine_eq]; omega) fun s' J => ⟨.non, H1, J, rfl, q⟩
/-- self.f = e, the first field -/
def tFst (C : Addr) (f : Str) (to te : TE) : TS := fun D σ H => te σ H fun y H1 => to σ H1 fun x H2 => ∃ a : Addr, x = .ref a ∧ H2 a = some (exo a C none) ∧ ∀ dx, H2 dx = none → dx ≠ a → D.nx σ (upd (upd H2 dx (exd dx [(f, y)])) a (exo a C (some dx)))
theorem ps_fst {o : Expr} {f : Str} {p' : Pos} (SF : StoreFacts B bmB "object.__setattr__" "object") (T : XC X.K C newId bmB) (no : PySem.W.findIn X.K (.ref C) f = some none) (ho : PE X o to) (he : PE X e te) (hs : swapsWith e (some (.Attribute o f p')) pos.line X.env = pure false := by rfl) :
    PS X (.Assign [.Attribute o f p'] e pos) (tFst C f to te) := by
  refine ⟨fun pins s σ H D I h => plainObj_wpAny_Assign_Attribute (thn (he.run pins s σ H _ I h) fun v s1 ⟨y, H1, I1, r1, q1⟩ => thn (ho.run pins s1 σ H1 _ I1 q1) fun u s2 ⟨x, H2, I2, r2, a, ex, ea, q⟩ => ?_) hs⟩
  subst ex
  cases (show u = Value.ref a from r2)
  exact base_field SF T I2 ea no r1 fun dx s' n ne J => ⟨σ, _, J, q dx n ne⟩
/-- C(e, ..): C's own __init__ keeps sp -/
def tMk (C : Addr) (sp : Sp) (ta : TA) : L2.St → Hp → XK → Prop := fun σ H Q => ta σ H fun vs H1 => vs.length ≤ 1000 ∧ ∀ a, H1 a = none → sp (.ref a :: vs) (upd H1 a (exo a C none))
  (fun v H2 => v = .non ∧ ∃ (d : Addr) (fs : List (Str × V)), H2 a = some (exo a C (some d)) ∧ H2 d = some (exd d fs) ∧ H1 d = none ∧ Q (.ref C) (some d) (upd (del H2 a) d (.xd fs))) (fun _ _ _ => False)
theorem pmk_own0 {CX : CXT} {x : Str} {fI : Addr} {k : Nat} {fd : FuncData} {ps : List Str} {sp : Sp} {p : Pos} (F : ExcBaseFacts B newId initId bmB) (T : XC X.K C newId bmB) (iC : PySem.W.findIn X.K (.ref C) "__init__" = some (some (.ref fI))) (tI : PySem.W.typeIn X.K (.ref fI) = some (.type "function"))
    (F1 : FnOk X.prog X.w X.K X.mg X.base CX k fI fd ps sp) (hr : Room (k + 1) X.A) (hb : Binds X.K fd ps []) (hx : Passes CX X (fun _ _ _ => False)) (hg : Gl X x) (hm : X.mg x = some (.ref C)) (ha : PA X (e :: es) ta)
    (hdb : (x == ("__debug__" : Str)) = false := by decide) (he : starEach (e :: es) X.env = (false, eval e X.env) :: starEach es X.env := by rfl) (hpl : (backTo pos (starEach es X.env)).any (·.1) = false := by rfl) :
    PMk X (.Call (.Name x p) (e :: es) [] pos) (tMk C sp ta) := by
  intro pins s σ H Q I h
  refine wpAny_Call_Name_kw (ld_glob I hg hm ?_ hdb)
  refine PySem.W.callWith_K (h₀ := X.base) I.ok.mod.kin T.kC (thn (ha.run pos pins s σ H _ I h) fun us s1 ⟨vs, H1, I1, r1, hz, q1⟩ => ⟨I1.kIn, ?_⟩) he hpl
  show wpAny _ _ (call (.ref C) us) _ _ _
  obtain ⟨_, _, _, _, _, _, _, _, _, _, _, _, _, _, _, _, hC, hT⟩ := PySem.W.excInit_of I1.kIn T.ini
  obtain ⟨hp, g, dr, tk, os⟩ := s1
  have up1 : hp.objs.size ≤ hp.objs.size + 1 := Nat.le_succ _
  have old : ∀ b o, hp.get? b = some o → ((hp.push (PySem.W.kdv_tup us)).push (PySem.HandSPX.excO C hp.objs.size)).get? b = some o := fun b o e => Heap.get?_push_of_some _ (Heap.get?_push_of_some _ e)
  have new : ((hp.push (PySem.W.kdv_tup us)).push (PySem.HandSPX.excO C hp.objs.size)).get? (hp.objs.size + 1) = some (PySem.HandSPX.excO C hp.objs.size) := by heap_get
  have I2 := I1.laid (t' := tk) (a := hp.objs.size + 1) (o := exo (hp.objs.size + 1) C none) (h' := (hp.push (PySem.W.kdv_tup us)).push (PySem.HandSPX.excO C hp.objs.size)) old up1 (exo_ok new)
  have q2 := q1 (hp.objs.size + 1) (I1.hok.fresh up1)
  have r2 : Vals (V.ref (hp.objs.size + 1) :: vs) (Value.ref (hp.objs.size + 1) :: us) := .cons rfl r1
  have hl : (Value.ref (hp.objs.size + 1) :: us ++ []).length = ps.length := by rw [List.append_nil, ← r2.length]; exact F1.len _ _ _ _ q2
  have small : us.length ≤ sizeLine := by rw [← Paired.length r1, sizeLine_eq]; omega
  refine wpAny_call (PySem.HandSPX.call_own F hT hC (PySem.W.looks_findIn I1.kIn iC) (fun self => PySem.W.bind_fn I1.kIn self tI) small
    (codeAny_mono (F1.run _ X.stack _ _ ⟨Value.ref (hp.objs.size + 1) :: us, []⟩ (Value.ref (hp.objs.size + 1) :: us) _ _ (fun _ _ _ => False) (hr.make C us []) (I2.env0.make C us []) (by simpa using hb _ (Value.ref (hp.objs.size + 1) :: us) I2.kIn hl) r2 q2) fun r s' hq' => ?_))
  rcases r with er | fl
  · exact hx pins σ _ _ er s' I2 hq'
  · cases fl with
    | ret u =>
      obtain ⟨v, H2, os2, bare2, un2, hok2, rv, ev, d, fs, ea, ed, hd1, q3⟩ := hq'
      subst ev
      obtain ⟨h2, g2, d2, t2, os'⟩ := s'
      exact ⟨rv, mk_end (raises_own T.exC T.tyC) I1 up1 old un2 hok2 os2 bare2 ea ed hd1 q3⟩
    | next => exact False.elim hq'
    | brk => exact False.elim hq'
    | cont => exact False.elim hq'
end
end Ml
/-! The mill, part 12: raise, try, calls by keywords. -/
namespace Ml
open PySem PySem.Spec L2

/-! ### an __init__ of one field -/
def clsDef (s : Stmt) (j : Nat) : Stmt := match s with
  | .ClassDef _ _ _ b _ _ _ _ _ _ _ => b.getD j (.Pass ⟨0, 0, 0, 0⟩)
  | _ => .Pass ⟨0, 0, 0, 0⟩
/-- __init__(self, f): B.__init__(self, ..); self.f = f -/
def spIni (C : Addr) (f : Str) : Sp := fun vs H Q _ => ∃ (a : Addr) (i : Int), vs = [.ref a, .int i] ∧ i.natAbs < 2 ^ 64 ∧ H a = some (exo a C none) ∧ ∀ dx, H dx = none → dx ≠ a → Q .non (upd (upd H dx (exd dx [(f, .int i)])) a (exo a C (some dx)))
theorem small_log {i : Int} (h : i.natAbs < 2 ^ 64) : i.natAbs.log2 < 64 := by
  rcases Nat.eq_zero_or_pos i.natAbs with e | e
  · rw [e]; decide
  · exact (Nat.log2_lt (Nat.ne_of_gt e)).mpr h
theorem pure_ini {K : PySem.W.Frag} {C : Addr} {f t0 : Str} {N : List Str} {vs : List V} {H : Hp} {Q : VK} {E : XK} (hN : N.length = 2) (ht : t0.length ≤ 1000) (h : spIni C f vs H Q E) :
    tSeq (tDrop (tBi K C (tCons (tVar 0) (tCons (fun σ H Q => tJs [tC (.str t0), tFmt (tVar 1)] Str.empty σ H fun out H1 => Q (.str out) H1) tNil)))) (tFst C f (tVar 0) (tVar 1)) { nx := fun _ H' => Q .non H', rt := Q } (L2.start N vs) H := by
  obtain ⟨a, i, rfl, hi, ha, k⟩ := h
  have e0 : (L2.start N [V.ref a, V.int i])[0]? = some (some (V.ref a)) := rfl
  have e1 : (L2.start N [V.ref a, V.int i])[1]? = some (some (V.int i)) := rfl
  have z := int_text_length_le (a := i) (k := 64) (by decide) (small_log hi)
  have z0 : Str.empty.length = 0 := rfl
  refine ⟨_, e0, t0, rfl, ?_, ?_⟩
  · rw [strLen_append, z0, sizeLine_eq]; omega
  refine ⟨_, e1, .inr ⟨i, rfl, Nat.lt_trans (small_log hi) (by decide), _, rfl, ?_, ?_⟩⟩
  · rw [strLen_append, strLen_append, z0, ofString_length, sizeLine_eq]; omega
  refine ⟨a, _, rfl, by show 1 ≤ 1000; decide, ha, ?_⟩
  exact ⟨_, e1, _, e0, a, rfl, ha, k⟩
section
variable {X : Cx} {W : WX} {C : Addr} {B newId initId : String} {bmB : List Value} {e : Expr} {es : List Expr} {p pos pos2 : Pos}
/-- raise x(..): x's one field f is its one argument, an int -/
def mRaise (x f : Str) (k : MA) : MS := fun ρ h => (k ρ h).into ρ fun ds h1 => match ds with
  | [.int i] => if i.natAbs < 2 ^ 64 then .ex ⟨x, [(f, .int i)]⟩ ρ h1 else .no
  | _ => .no
theorem s_raise {x f : Str} {fI : Addr} {k : Nat} {fd : FuncData} {ps : List Str} {m : MA} (hc : X.calm = true) (F : ExcBaseFacts B newId initId bmB) (T : XC X.K C newId bmB) (iC : PySem.W.findIn X.K (.ref C) "__init__" = some (some (.ref fI))) (tI : PySem.W.typeIn X.K (.ref fI) = some (.type "function"))
    (F1 : FnOk X.prog X.w X.K X.mg X.base (L2.CX X.prog X.w) k fI fd ps (spIni C f)) (hr : Room (k + 1) X.A) (hb : Binds X.K fd ps []) (hm : X.mg x = some (.ref C)) (tk : Takes X W) (ha : PA X (e :: es) (tDs X W m)) (hg : Gl X x := by rfl)
    (hdb : (x == ("__debug__" : Str)) = false := by decide) (he : starEach (e :: es) X.env = (false, eval e X.env) :: starEach es X.env := by rfl) (hpl : (backTo pos (starEach es X.env)).any (·.1) = false := by rfl) :
    PS X (.Raise (some (.Call (.Name x p) (e :: es) [] pos)) none pos2) (tSt X W (mRaise x f m)) := by
  refine ps_imp (ps_raise hc tk (pmk_own0 F T iC tI F1 hr hb passL hg hm ha hdb he hpl)) fun Dn σ H q => ?_
  refine tSt.step q fun α1 ρ H1 ds h1 vs R1 E1 r1 o1 => ?_
  have key : ∀ i : Int, ds = [.int i] → i.natAbs < 2 ^ 64 → OkS X.K X.mg W Dn α1 H1 (.ex ⟨x, [(f, .int i)]⟩ ρ h1) → vs.length ≤ 1000 ∧ ∀ a, H1 a = none → spIni C f (.ref a :: vs) (upd H1 a (exo a C none))
      (fun v H2 => v = .non ∧ ∃ (d : Addr) (fs : List (Str × V)), H2 a = some (exo a C (some d)) ∧ H2 d = some (exd d fs) ∧ H1 d = none ∧ W (.ref C) (some d) σ (upd (del H2 a) d (.xd fs))) (fun _ _ _ => False) := by
    intro i ei hi o2
    subst ei
    obtain ⟨v, r, rfl, q1, q2⟩ := r1
    cases q2
    cases (show v = .int i from q1)
    refine ⟨by show 1 ≤ 1000; decide, fun a na => ⟨a, i, rfl, hi, upd_same, fun dx hd hne => ⟨rfl, dx, [(f, .int i)], upd_same, ?_, ?_, ?_⟩⟩⟩
    · rw [upd_ne hne]; exact upd_same
    · rw [upd_ne hne] at hd; exact hd
    · have hd' : H1 dx = none := by rw [upd_ne hne] at hd; exact hd
      have eq : upd (del (upd (upd (upd H1 a (exo a C none)) dx (exd dx [(f, .int i)])) a (exo a C (some dx))) a) dx (.xd [(f, .int i)]) = upd H1 dx (.xd [(f, .int i)]) := by
        funext b
        by_cases hb : b = dx
        · rw [hb, upd_same, upd_same]
        · rw [upd_ne hb, upd_ne hb]
          by_cases hba : b = a
          · rw [hba, del_same, na]
          · rw [del_ne hba, upd_ne hba, upd_ne hb, upd_ne hba]
      rw [eq]
      exact o2 α1 σ _ _ _ (Ext.newTup hd') (R1.newTup hd') (E1.ext (Ext.newTup hd')) ⟨C, hm, rfl, [(f, .int i)], upd_same, rfl, ⟨.int i, [], rfl, rfl, rfl⟩⟩
  split at o1
  · rename_i i
    split at o1
    · rename_i hi; exact key i rfl hi o1
    · exact o1.elim
  · exact o1.elim
/-! ### try: .. except c as n: .. -/
def unset (i : Nat) : O → O
  | .nx ρ h => .nx (ρ.set i none) h
  | .bk ρ h => .bk (ρ.set i none) h
  | .ct ρ h => .ct (ρ.set i none) h
  | .rt d h => .rt d h
  | .ex _ _ _ => .no
  | .no => .no
def mTry (mb : MS) (c : Str) (i : Nat) (su : XD → MS) : MS := fun ρ h => match mb ρ h with
  | .ex e ρ1 h1 => if e.cls = c ∧ i < ρ1.length then unset i (su e (ρ1.set i none) h1) else .no
  | o => o
/-- a suite with the exception at a in slot i -/
def tSu (K : PySem.W.Frag) (mg : Str → Option Value) (c : Str) (i : Nat) (su : XD → MS) (a : Addr) (cls : Value) (d : Option Addr) : TS := fun Dn σ H =>
  ∃ α ρ h e, RelH K α h H ∧ RelE K α H ρ σ ∧ σ[i]? = some (some (.ref a)) ∧ RepX K mg α H e cls d ∧ e.cls = c ∧ OkS K mg (fun _ _ _ _ => False) Dn α H (su e ρ h)
theorem RelE.drop {K : PySem.W.Frag} {α : List Addr} {H : Hp} {ρ : Sl} {σ : L2.St} (r : RelE K α H ρ σ) (i : Nat) (v : Option V) : RelE K α H (ρ.set i none) (σ.set i v) := by
  refine ⟨by simp [r.len], fun j d e => ?_⟩
  by_cases hj : i = j
  · subst hj
    by_cases hi : i < ρ.length
    · rw [List.getElem?_set_self hi] at e; cases e
    · rw [List.getElem?_eq_none (by simpa using hi)] at e; cases e
  · rw [List.getElem?_set_ne hj] at e
    rw [List.getElem?_set_ne hj]
    exact r.at' j d e
theorem okS_unset {K : PySem.W.Frag} {mg : Str → Option Value} {Dn : Ends} {α : List Addr} {H : Hp} {i : Nat} {o : O} (x : OkS K mg W Dn α H (unset i o)) :
    OkS K mg (fun _ _ _ _ => False) { nx := fun σ' H' => Dn.nx (σ'.set i none) H', rt := Dn.rt, bk := fun σ' H' => Dn.bk (σ'.set i none) H', ct := fun σ' H' => Dn.ct (σ'.set i none) H' } α H o := by
  cases o with
  | nx ρ h => exact fun α' σ' H' e r q => x α' _ H' e r (q.drop i none)
  | bk ρ h => exact fun α' σ' H' e r q => x α' _ H' e r (q.drop i none)
  | ct ρ h => exact fun α' σ' H' e r q => x α' _ H' e r (q.drop i none)
  | rt d h => exact x
  | ex _ _ _ => exact x.elim
  | no => exact x
theorem s_try {x n : Str} {i : Nat} {body suite : List Stmt} {b₀ : Stmt} {np pos' : Pos} {mb : MS} {su : XD → MS} (hs : X.stack = X.env :: X.outer) (hf : X.env.frame = some X.env.locals) (hN : X.N.Nodup) (hi : X.N[i]? = some n) (hln : X.env.kindOf n = some .local)
    (hm : X.mg x = some (.ref C)) (hex : PySem.W.exmOne X.K (.ref C) (.ref C) = some true) (tk : Takes X W)
    (hb : ∀ (W' : WX) (pn : List (Addr × Obj)) (xe : Value → Shared → Prop), Takes (X.tr pn xe) W' → PassesOwn (model X.prog X.w) X.A X.env xe → PSs (X.tr pn xe) body (tSt (X.tr pn xe) W' mb))
    (hsu : ∀ (a : Addr) (oe : Obj) (cls : Value) (d : Option Addr) (pn : List (Addr × Obj)), Zc cls d oe → (∃ vs, oe.data = .fields vs) → PSs (X.suite a ((a, oe) :: pn)) (b₀ :: suite) (tSu X.K X.mg x i su a cls d)) (hg : Gl X x := by rfl) (hdb : (x == ("__debug__" : Str)) = false := by decide) :
    PS X (.Try body [.ExceptHandler (some (.Name x np)) (some n) (b₀ :: suite) pos'] [] [] pos) (tSt X W (mTry mb x i su)) := by
  refine ps_imp (ps_try_as (tb := fun W' => tSt X W' mb) (Wout := W) hs hf hN hi hln (c := .ref C) ⟨hg, hdb, .inl hm⟩ tk hb hsu) fun Dn σ H q => ?_
  obtain ⟨α, ρ, h, R, E, o⟩ := q
  refine ⟨α, ρ, h, R, E, ?_⟩
  unfold mTry at o
  cases hq : mb ρ h with
  | nx ρ1 h1 => rw [hq] at o; exact o
  | bk ρ1 h1 => rw [hq] at o; exact o
  | ct ρ1 h1 => rw [hq] at o; exact o
  | rt d h1 => rw [hq] at o; exact o
  | no => rw [hq] at o; exact o
  | ex e ρ1 h1 =>
    rw [hq] at o
    dsimp only at o
    intro α' σ' H' cls dd ext R' E' rx
    by_cases hc' : e.cls = x ∧ i < ρ1.length
    · rw [if_pos hc'] at o
      obtain ⟨hc, hlt⟩ := hc'
      have o2 := okS_unset (OkS.later ext o)
      have hcls : cls = .ref C := by
        obtain ⟨C', h1, h2, _⟩ := rx
        rw [hc, hm] at h1
        cases h1
        exact h2
      subst hcls
      exact ⟨true, hex, fun _ a na => ⟨α', ρ1.set i none, h1, e, R', E'.drop i _, List.getElem?_set_self (by rw [← E'.len]; exact hlt), rx, hc, o2⟩, fun z => Bool.noConfusion z⟩
    · rw [if_neg hc'] at o; exact o.elim
/-- return ['t', err.f] -/
def suRet (t f : Str) : XD → MS := fun e _ h => match e.fs.lookup f with
  | some d => .rt (.ref h.length) (h ++ [.lst [.str t, d]])
  | none => .no
theorem look_rep {K : PySem.W.Frag} {α : List Addr} {H : Hp} {f : Str} {d : D} : ∀ {ds : List (Str × D)} {fs : List (Str × V)}, fs.map (·.1) = ds.map (·.1) → Reps K α H (ds.map (·.2)) (fs.map (·.2)) → ds.lookup f = some d → ∃ v, fs.lookup f = some v ∧ Rep K α H d v
  | [], _, _, _, e => by cases e
  | (g, x) :: ds, [], h, _, _ => by cases h
  | (g, x) :: ds, (g', y) :: fs, h, ⟨v, r, e1, r1, r2⟩, e => by
    simp only [List.map_cons, List.cons.injEq] at h e1
    obtain ⟨rfl, h⟩ := h
    obtain ⟨rfl, rfl⟩ := e1
    rw [lookup_put]
    by_cases hf : f = g'
    · subst hf
      have e' : x = d := by simpa [List.lookup] using e
      subst e'
      exact ⟨y, if_pos rfl, r1⟩
    · have hb : (f == g') = false := by simpa using hf
      have e' : ds.lookup f = some d := by simpa [List.lookup, hb] using e
      rw [if_neg hf]
      exact look_rep h r2 e'
theorem suRet_ok {x f t : Str} {i : Nat} {a : Addr} {oe : Obj} {cls : Value} {d : Option Addr} {pn : List (Addr × Obj)} {n : Str} {q1 q2 q3 q4 : Pos} {j : Nat} (T : XfC X.K C) (no : PySem.W.findIn X.K (.ref C) f = some none) (hm : X.mg x = some (.ref C)) (hz : Zc cls d oe) (hf : ∃ vs, oe.data = .fields vs) (hi : X.N[i]? = some n)
    (hv : Vis X.env.scope n) (hd : (n == ("__debug__" : Str)) = false := by decide) (hcd : (n == ("__classdict__" : Str)) = false := by decide)
    (hb : attributeBase (.Name n q2) f (X.suite a ((a, oe) :: pn)).env (eval (.Name n q2) (X.suite a ((a, oe) :: pn)).env) = eval (.Name n q2) (X.suite a ((a, oe) :: pn)).env := by rfl)
    (h1 : starEach [.Constant (.str t) j q1, .Attribute (.Name n q2) f q3] (X.suite a ((a, oe) :: pn)).env = (false, eval (.Constant (.str t) j q1) (X.suite a ((a, oe) :: pn)).env) :: starEach [.Attribute (.Name n q2) f q3] (X.suite a ((a, oe) :: pn)).env := by rfl)
    (h2 : starEach [.Attribute (.Name n q2) f q3] (X.suite a ((a, oe) :: pn)).env = (false, eval (.Attribute (.Name n q2) f q3) (X.suite a ((a, oe) :: pn)).env) :: starEach [] (X.suite a ((a, oe) :: pn)).env := by rfl) :
    PSs (X.suite a ((a, oe) :: pn)) [.Return (some (.List [.Constant (.str t) j q1, .Attribute (.Name n q2) f q3] q4)) pos] (tSu X.K X.mg x i (suRet t f) a cls d) := by
  refine pss_imp (pss_one (ps_ret (pe_lst (pa_cons pe_str (pa_cons (pe_xf T no hz hf (pe_var (X := X.suite a ((a, oe) :: pn)) hi hv hd hcd) hb) pa_nil h2) h1)))) fun Dn σ H q => ?_
  obtain ⟨α, ρ, h, e, R, E, hs, ⟨C', m1, m2, m3⟩, hc, o⟩ := q
  rw [hc, hm] at m1
  cases m1
  unfold suRet at o
  cases hl : e.fs.lookup f with
  | none => rw [hl] at o; exact o.elim
  | some y =>
    rw [hl] at o
    cases d with
    | none =>
      have m3 : e.fs = [] := m3
      rw [m3] at hl; cases hl
    | some dd =>
      obtain ⟨fs, e1, e2, e3⟩ := m3
      obtain ⟨v, l, rv⟩ := look_rep e2 e3 hl
      refine ⟨.ref a, hs, rfl, m2, dd, fs, v, rfl, e1, l, (by show 2 ≤ sizeLine; decide), fun p hp => ?_⟩
      have ex : Ext X.K α H (α ++ [p]) (upd H p (.lst [.str t, v])) := Ext.new hp [p]
      exact o _ _ _ ex (R.newLst hp ⟨.str t, [v], rfl, rfl, v, [], rfl, rv, rfl⟩) (fresh_ref R)
end
/-! ### calls by keywords alone -/
def pick {β : Type} (is : List Nat) (l : List β) : List β := is.filterMap (l[·]?)
theorem pick_reps {K : PySem.W.Frag} {α : List Addr} {H : Hp} {ds : List D} {vs : List V} (r : Reps K α H ds vs) : ∀ is : List Nat, Reps K α H (pick is ds) (pick is vs)
  | [] => rfl
  | i :: is => by
    have ih := pick_reps r is
    unfold pick at ih ⊢
    rw [List.filterMap_cons, List.filterMap_cons]
    cases e : ds[i]? with
    | none => rw [List.getElem?_eq_none (by rw [Reps.length r]; exact List.getElem?_eq_none_iff.mp e)]; exact ih
    | some d =>
      obtain ⟨v, h1, h2⟩ := Reps.get r e
      rw [h1]
      exact ⟨v, _, rfl, h2, ih⟩
theorem pick_vals {vs : List V} {us : List Value} (r : Vals vs us) : ∀ is : List Nat, Vals (pick is vs) (pick is us)
  | [] => .nil
  | i :: is => by
    have ih := pick_vals r is
    unfold pick at ih ⊢
    rw [List.filterMap_cons, List.filterMap_cons]
    have key : ∀ {vs : List V} {us : List Value}, Vals vs us → ∀ i : Nat, (vs[i]? = none ∧ us[i]? = none) ∨ ∃ v u, vs[i]? = some v ∧ us[i]? = some u ∧ RelV v u := by
      intro vs us r
      induction r with
      | nil => exact fun i => .inl ⟨rfl, rfl⟩
      | cons h _ ih => exact fun i => match i with
        | 0 => .inr ⟨_, _, rfl, rfl, h⟩
        | i + 1 => ih i
    rcases key r i with ⟨e1, e2⟩ | ⟨v, u, e1, e2, h⟩
    · rw [e1, e2]; exact ih
    · rw [e1, e2]; exact .cons h ih
structure KB (K : PySem.W.Frag) (fd : FuncData) (ps ks : List Str) (is : List Nat) : Prop where
  to : ∀ (s : Shared) (ws : List Value), ws.length = ps.length → BindsTo s fd ⟨[], ks.zip ws⟩ (ps.zip (pick is ws))
def mFnK (n : Nat) (is : List Nat) (g : List D → Sto → R D) (k : MA) : ME := fun ρ h => (k ρ h).bind fun ds h1 => if ds.length = n ∧ (pick is ds).length = n then g (pick is ds) h1 else .no
theorem d_pk_nil {X : Cx} {W : WX} : PK X [] (tDs X W mNil) := ⟨fun pos pins s σ H Q I q => pk_nil.run pos pins s σ H Q I (by obtain ⟨α, ρ, h, R, E, o⟩ := q; exact o α H [] .refl R rfl)⟩
theorem d_pk_cons {X : Cx} {W : WX} {nm : Option Str} {e : Expr} {kpos : Pos} {kws : List Keyword} {m : ME} {k : MA} (he : PE X e (tD X W m)) (hk : PK X kws (tDs X W k)) : PK X (⟨nm, e, kpos⟩ :: kws) (tDs X W (mCons m k)) :=
  ⟨fun pos pins s σ H Q I q => (pk_cons he hk).run pos pins s σ H Q I (by
    refine tG.step q fun α1 ρ H1 b h1 c R1 E1 r1 o1 => ?_
    refine ⟨α1, ρ, h1, R1, E1, OkG.bind o1 fun α2 H2 bs h2 cs e2 R2 r2 o2 => ?_⟩
    exact o2 α2 H2 (c :: cs) .refl R2 ⟨c, cs, rfl, Rep.ext e2 b r1, r2⟩)⟩
section
variable {X : Cx} {W : WX} {pos p : Pos} {x : Str} {kws : List Keyword} {m : MA} {k : Nat} {f : Addr} {fd : FuncData} {ps ks : List Str} {n : Nat} {g : List D → Sto → R D} {is : List Nat}
theorem d_fnK (F : FnOk X.prog X.w X.K X.mg X.base (L2.CX X.prog X.w) k f fd ps (spD X.K X.mg n g)) (hr : Room k X.A) (hm : X.mg x = some (.ref f)) (hk : PySem.W.keepIn X.K (.ref f) = true) (hb : KB X.K fd ps ks is) (hn : ps.length = n) (tk : Takes X W) (ha : PK X kws (tDs X W m)) (hg : Gl X x := by rfl)
    (hall : (backToKw pos (keywordEach kws X.env)).all (·.1.isSome) = true := by rfl) (hks : (backToKw pos (keywordEach kws X.env)).filterMap (·.1) = ks := by rfl) (hdb : (x == ("__debug__" : Str)) = false := by decide)
    (hpl : ((backTo pos (starEach [] X.env)).any (·.1) || (backToKw pos (keywordEach kws X.env)).any (·.1.isNone)) = false := by rfl) :
    PE X (.Call (.Name x p) [] kws pos) (tD X W (mFnK n is g m)) := by
  refine ⟨fun pins s σ H Q I q => ?_⟩
  refine wpAny_Call_Name_kw (ld_glob I hg hm ?_ hdb)
  refine PySem.W.callWith_KW0 (h₀ := X.base) I.ok.mod.kin hk hall ?_ hpl
  have q2 : tDs X W m σ H (fun zs H2 => zs.length = n ∧ spD X.K X.mg n g (pick is zs) H2 Q (WE W σ)) := by
    refine tG.step q fun α1 ρ H1 ds h1 vs R1 E1 r1 o1 => ?_
    split at o1
    · rename_i hl
      exact ⟨by rw [Reps.length r1, hl.1], α1, h1, pick is ds, R1, pick_reps r1 is, hl.2, o1.wish fun c d H' h => h⟩
    · exact o1.elim
  refine thn (ha.run pos pins s σ H _ I q2) fun ws s2 ⟨zs, H2, I2, rz, lz, q3⟩ => ⟨I2.kIn, ?_⟩
  rw [hks]
  have lw : ws.length = ps.length := by rw [← rz.length, lz, hn]
  refine wpAny_call (codeAny_mono (F.run X.A X.stack s2 H2 ⟨[], ks.zip ws⟩ (pick is ws) (pick is zs) Q (WE W σ) hr I2.env0 (hb.to s2 ws lw) (pick_vals rz is) q3) fun r s' hq => ?_)
  cases r with
  | error e => exact passAt tk σ pins H2 s2 e s' I2 hq
  | ok fl =>
    cases fl with
    | ret u => exact I2.after hq
    | next => exact False.elim hq
    | brk => exact False.elim hq
    | cont => exact False.elim hq
end
end Ml
/-! The mill, part 13: what simp knows. -/
namespace Ml
open PySem PySem.Spec L2
theorem eqD_int (i j : Int) (h : Sto) : eqD (.int i) (.int j) h = .ok (.bl (decide (i = j))) h := by
  have e : eqO h (.int i) (.int j) = some (i == j) := by simp [eqO, toPy, SeqAt.shaped, PyData.canLay0, PyData.depth, PyData.eqv]
  unfold eqD
  rw [e]
  rfl
end Ml
/-! The mill, part 14: what a text does, told from behind: rp, ro; frames. -/
namespace Ml
open PySem PySem.Spec L2

def rp {β : Type} (r : R β) (P : β → Sto → Prop) : Prop := match r with
  | .ok b h => P b h
  | _ => False
def ro (o : O) (Pn : Sl → Sto → Prop) (Pr : D → Sto → Prop) : Prop := match o with
  | .nx ρ h => Pn ρ h
  | .rt d h => Pr d h
  | _ => False
theorem rp_of {β : Type} {r : R β} {P : β → Sto → Prop} (x : rp r P) : ∃ b h, r = .ok b h ∧ P b h := by
  cases r with
  | ok b h => exact ⟨b, h, rfl, x⟩
  | ex _ _ => exact x.elim
  | no => exact x.elim
theorem rp_mono {β : Type} {r : R β} {P Q : β → Sto → Prop} (x : rp r P) (f : ∀ b h, P b h → Q b h) : rp r Q := by
  cases r with
  | ok b h => exact f _ _ x
  | ex _ _ => exact x
  | no => exact x
theorem ro_mono {o : O} {P P' : Sl → Sto → Prop} {Q Q' : D → Sto → Prop} (x : ro o P Q) (f : ∀ b h, P b h → P' b h) (g : ∀ b h, Q b h → Q' b h) : ro o P' Q' := by
  cases o <;> first | exact f _ _ x | exact g _ _ x | exact x
section
variable {β γ : Type} {P : β → Sto → Prop} {Q : D → Sto → Prop} {ρ : Sl} {h : Sto}
@[simp] theorem rp_ok {b : β} : rp (.ok b h) P ↔ P b h := Iff.rfl
@[simp] theorem rp_bind {r : R γ} {k : γ → Sto → R β} : rp (r.bind k) P ↔ rp r fun b h => rp (k b h) P := by cases r <;> exact Iff.rfl
@[simp] theorem ro_into {r : R γ} {k : γ → Sto → O} {Pn : Sl → Sto → Prop} : ro (r.into ρ k) Pn Q ↔ rp r fun b h => ro (k b h) Pn Q := by cases r <;> exact Iff.rfl
@[simp] theorem ro_nx {Pn : Sl → Sto → Prop} : ro (.nx ρ h) Pn Q ↔ Pn ρ h := Iff.rfl
@[simp] theorem ro_rt {d : D} {Pn : Sl → Sto → Prop} : ro (.rt d h) Pn Q ↔ Q d h := Iff.rfl
@[simp] theorem rp_var {i : Nat} : rp (mVar i ρ h) Q ↔ ∃ d, ρ[i]? = some (some d) ∧ Q d h := by
  unfold mVar
  split
  · rename_i d e; rw [e]; simp
  · rename_i e; constructor
    · intro x; exact x.elim
    · rintro ⟨d, z, _⟩; exact (e d z).elim
@[simp] theorem rp_c {d : D} : rp (mC d ρ h) Q ↔ Q d h := Iff.rfl
@[simp] theorem rp_nil {P : List D → Sto → Prop} : rp (mNil ρ h) P ↔ P [] h := Iff.rfl
@[simp] theorem rp_cons {m : ME} {k : MA} {P : List D → Sto → Prop} : rp (mCons m k ρ h) P ↔ rp (m ρ h) fun d h1 => rp (k ρ h1) fun ds h2 => P (d :: ds) h2 := by unfold mCons; simp
@[simp] theorem rp_bin {f : D → D → Sto → R D} {m k : ME} : rp (mBin f m k ρ h) Q ↔ rp (m ρ h) fun x h1 => rp (k ρ h1) fun y h2 => rp (f x y h2) Q := by unfold mBin; simp
@[simp] theorem rp_call {f : List D → Sto → R D} {k : MA} : rp (mCall f k ρ h) Q ↔ rp (k ρ h) fun ds h1 => rp (f ds h1) Q := by unfold mCall; simp
@[simp] theorem rp_tup {k : MA} : rp (mTup k ρ h) Q ↔ rp (k ρ h) fun ds h1 => ds.length ≤ 16777216 ∧ Q (.tup ds) h1 := by
  unfold mTup
  rw [rp_bind]
  constructor <;> intro x <;> refine rp_mono x fun ds h1 y => ?_
  · by_cases c : ds.length ≤ 16777216
    · rw [if_pos c] at y; exact ⟨c, y⟩
    · rw [if_neg c] at y; exact y.elim
  · rw [if_pos y.1]; exact y.2
@[simp] theorem rp_lst {k : MA} : rp (mLst k ρ h) Q ↔ rp (k ρ h) fun ds h1 => ds.length ≤ 16777216 ∧ Q (.ref h1.length) (h1 ++ [.lst ds]) := by
  unfold mLst
  rw [rp_bind]
  constructor <;> intro x <;> refine rp_mono x fun ds h1 y => ?_
  · by_cases c : ds.length ≤ 16777216
    · rw [if_pos c] at y; exact ⟨c, y⟩
    · rw [if_neg c] at y; exact y.elim
  · rw [if_pos y.1]; exact y.2
@[simp] theorem rp_if {t : MT} {m k : ME} : rp (mIf t m k ρ h) Q ↔ rp (t ρ h) fun b h1 => if b = true then rp (m ρ h1) Q else rp (k ρ h1) Q := by
  unfold mIf
  rw [rp_bind]
  constructor <;> intro x <;> refine rp_mono x fun b h1 y => ?_ <;> cases b <;> exact y
@[simp] theorem rp_tb {m : ME} {P : Bool → Sto → Prop} : rp (mTB m ρ h) P ↔ rp (m ρ h) fun d h1 => ∃ b, d = .bl b ∧ P b h1 := by
  unfold mTB
  rw [rp_bind]
  constructor <;> intro x <;> refine rp_mono x fun d h1 y => ?_
  · cases d with
    | bl b => exact ⟨b, rfl, y⟩
    | _ => exact y.elim
  · obtain ⟨b, rfl, y⟩ := y; exact y
@[simp] theorem rp_tru {m : ME} {P : Bool → Sto → Prop} : rp (mTru m ρ h) P ↔ rp (m ρ h) fun d h1 => ∃ b, truO h1 d = some b ∧ P b h1 := by
  unfold mTru
  rw [rp_bind]
  constructor <;> intro x <;> refine rp_mono x fun d h1 y => ?_
  · unfold truD at y
    cases e : truO h1 d with
    | none => rw [e] at y; exact y.elim
    | some b => rw [e] at y; exact ⟨b, rfl, y⟩
  · obtain ⟨b, e, y⟩ := y; unfold truD; rw [e]; exact y
@[simp] theorem rp_notT {m : MT} {P : Bool → Sto → Prop} : rp (mNotT m ρ h) P ↔ rp (m ρ h) fun b h1 => P (!b) h1 := by unfold mNotT; simp
@[simp] theorem rp_andT {m k : MT} {P : Bool → Sto → Prop} : rp (mAndT m k ρ h) P ↔ rp (m ρ h) fun b h1 => if b = true then rp (k ρ h1) P else P false h1 := by
  unfold mAndT
  rw [rp_bind]
  constructor <;> intro x <;> refine rp_mono x fun b h1 y => ?_ <;> cases b <;> exact y
@[simp] theorem rp_orT {m k : MT} {P : Bool → Sto → Prop} : rp (mOrT m k ρ h) P ↔ rp (m ρ h) fun b h1 => if b = true then P true h1 else rp (k ρ h1) P := by
  unfold mOrT
  rw [rp_bind]
  constructor <;> intro x <;> refine rp_mono x fun b h1 y => ?_ <;> cases b <;> exact y
@[simp] theorem rp_truD {d : D} {P : Bool → Sto → Prop} : rp (truD d h) P ↔ ∃ b, truO h d = some b ∧ P b h := by
  unfold truD
  cases e : truO h d with
  | none => constructor
            · intro x; exact x.elim
            · rintro ⟨b, z, _⟩; cases z
  | some b => simp
@[simp] theorem rp_not {m : ME} : rp (mNot m ρ h) Q ↔ rp (m ρ h) fun d h1 => ∃ b, truO h1 d = some b ∧ Q (.bl (!b)) h1 := by unfold mNot; simp
@[simp] theorem rp_and {m k : ME} : rp (mAnd m k ρ h) Q ↔ rp (m ρ h) fun d h1 => ∃ b, truO h1 d = some b ∧ if b = true then rp (k ρ h1) Q else Q d h1 := by
  unfold mAnd
  simp only [rp_bind, rp_truD]
  constructor <;> intro x <;> refine rp_mono x fun d h1 y => ?_ <;> obtain ⟨b, e, y⟩ := y <;> refine ⟨b, e, ?_⟩ <;> cases b <;> exact y
@[simp] theorem rp_or {m k : ME} : rp (mOr m k ρ h) Q ↔ rp (m ρ h) fun d h1 => ∃ b, truO h1 d = some b ∧ if b = true then Q d h1 else rp (k ρ h1) Q := by
  unfold mOr
  simp only [rp_bind, rp_truD]
  constructor <;> intro x <;> refine rp_mono x fun d h1 y => ?_ <;> obtain ⟨b, e, y⟩ := y <;> refine ⟨b, e, ?_⟩ <;> cases b <;> exact y
@[simp] theorem rp_fn {n : Nat} {g : List D → Sto → R D} {k : MA} : rp (mFn n g k ρ h) Q ↔ rp (k ρ h) fun ds h1 => ds.length = n ∧ rp (g ds h1) Q := by
  unfold mFn
  rw [rp_bind]
  constructor <;> intro x <;> refine rp_mono x fun ds h1 y => ?_
  · by_cases c : ds.length = n
    · rw [if_pos c] at y; exact ⟨c, y⟩
    · rw [if_neg c] at y; exact y.elim
  · rw [if_pos y.1]; exact y.2
@[simp] theorem rp_fn0 {g : List D → Sto → R D} : rp (mFn0 g ρ h) Q ↔ rp (g [] h) Q := by
  unfold mFn0
  cases g [] h <;> exact Iff.rfl
@[simp] theorem rp_noP {P : Option Int → Sto → Prop} : rp (mNoP ρ h) P ↔ P none h := Iff.rfl
@[simp] theorem rp_part {m : ME} {P : Option Int → Sto → Prop} : rp (mPart m ρ h) P ↔ rp (m ρ h) fun d h1 => ∃ i, d = .int i ∧ P (some i) h1 := by
  unfold mPart
  rw [rp_bind]
  constructor <;> intro x <;> refine rp_mono x fun d h1 y => ?_
  · cases d with
    | int b => exact ⟨b, rfl, y⟩
    | _ => exact y.elim
  · obtain ⟨b, rfl, y⟩ := y; exact y
@[simp] theorem rp_sl {m : ME} {l u : MO} : rp (mSl m l u ρ h) Q ↔ rp (m ρ h) fun x h1 => rp (l ρ h1) fun lo h2 => rp (u ρ h2) fun hi h3 => rp (slD x lo hi h3) Q := by unfold mSl; simp
@[simp] theorem rp_wk {f : List D → Sto → R Wk} {k : MA} {P : Wk → Sto → Prop} : rp (mWk f k ρ h) P ↔ rp (k ρ h) fun ds h1 => rp (f ds h1) P := by unfold mWk; simp
@[simp] theorem rp_seq {m : ME} {P : Wk → Sto → Prop} : rp (mSeq m ρ h) P ↔ rp (m ρ h) fun d h1 => rp (seqF d h1) P := by unfold mSeq; simp
@[simp] theorem rp_yes {P : Bool → Sto → Prop} : rp (mYes ρ h) P ↔ P true h := Iff.rfl
/-! operators -/
@[simp] theorem rp_addI {i j : Int} : rp (addD (.int i) (.int j) h) Q ↔ Q (.int (i + j)) h := Iff.rfl
@[simp] theorem rp_addT {xs ys : List D} : rp (addD (.tup xs) (.tup ys) h) Q ↔ xs.length + ys.length ≤ 16777216 ∧ Q (.tup (xs ++ ys)) h := by
  show rp (if _ then _ else _) Q ↔ _
  by_cases c : xs.length + ys.length ≤ 16777216
  · rw [if_pos c]; exact ⟨fun y => ⟨c, y⟩, fun y => y.2⟩
  · rw [if_neg c]; exact ⟨fun y => y.elim, fun y => (c y.1).elim⟩
theorem rp_addL {n k : Nat} {xs ys : List D} (e1 : lstAt h n = some xs) (e2 : lstAt h k = some ys) (hz : xs.length + ys.length ≤ 16777216) (q : Q (.ref h.length) (h ++ [.lst (xs ++ ys)])) : rp (addD (.ref n) (.ref k) h) Q := by
  show rp (match lstAt h n, lstAt h k with | some xs, some ys => _ | _, _ => _) Q
  rw [e1, e2]
  show rp (if _ then _ else _) Q
  rw [if_pos hz]
  exact q
@[simp] theorem rp_sub {i j : Int} : rp (int2 subF (.int i) (.int j) h) Q ↔ Q (.int (i - j)) h := Iff.rfl
@[simp] theorem rp_mod {i j : Int} : rp (int2 modF (.int i) (.int j) h) Q ↔ 0 < j ∧ Q (.int (i % j)) h := by
  unfold int2 modF
  by_cases c : 0 < j
  · simp [c]
  · simp only [c, if_false, false_and, iff_false]; exact id
@[simp] theorem rp_div {i j : Int} : rp (int2 fdivF (.int i) (.int j) h) Q ↔ (0 < j ∧ j < 1073741824) ∧ Q (.int (i / j)) h := by
  unfold int2 fdivF
  by_cases c : 0 < j ∧ j < 1073741824
  · simp [c]
  · simp only [c, if_false, false_and, iff_false]; exact id
@[simp] theorem rp_pow {i j : Int} : rp (int2 powF (.int i) (.int j) h) Q ↔ (0 ≤ j ∧ j ≤ 1000000 ∧ i.natAbs < 2 ^ 64) ∧ Q (.int (i ^ j.toNat)) h := by
  show rp (match powF i j with | some k => R.ok (.int k) h | none => .no) Q ↔ _
  unfold powF
  by_cases c : 0 ≤ j ∧ j ≤ 1000000 ∧ i.natAbs < 2 ^ 64
  · rw [if_pos c]; exact ⟨fun y => ⟨c, y⟩, fun y => y.2⟩
  · rw [if_neg c]; exact ⟨fun y => y.elim, fun y => (c y.1).elim⟩
@[simp] theorem rp_mul {i j : Int} : rp (mulD (.int i) (.int j) h) Q ↔ ((-(2 ^ 64) < i ∧ i < 2 ^ 64) ∨ (-(2 ^ 64) < j ∧ j < 2 ^ 64)) ∧ Q (.int (i * j)) h := by
  show rp (if _ then _ else _) Q ↔ _
  by_cases c : (-(2 ^ 64) < i ∧ i < 2 ^ 64) ∨ (-(2 ^ 64) < j ∧ j < 2 ^ 64)
  · rw [if_pos c]; exact ⟨fun y => ⟨c, y⟩, fun y => y.2⟩
  · rw [if_neg c]; exact ⟨fun y => y.elim, fun y => (c y.1).elim⟩
@[simp] theorem rp_lt {i j : Int} : rp (ltD (.int i) (.int j) h) Q ↔ Q (.bl (decide (i < j))) h := Iff.rfl
@[simp] theorem rp_le {i j : Int} : rp (leD (.int i) (.int j) h) Q ↔ Q (.bl (decide (i ≤ j))) h := Iff.rfl
@[simp] theorem rp_gt {i j : Int} : rp (gtD (.int i) (.int j) h) Q ↔ Q (.bl (decide (j < i))) h := Iff.rfl
@[simp] theorem rp_ge {i j : Int} : rp (geD (.int i) (.int j) h) Q ↔ Q (.bl (decide (j ≤ i))) h := Iff.rfl
@[simp] theorem rp_eqI {i j : Int} : rp (eqD (.int i) (.int j) h) Q ↔ Q (.bl (decide (i = j))) h := by rw [eqD_int]; exact Iff.rfl
@[simp] theorem rp_neI {i j : Int} : rp (neD (.int i) (.int j) h) Q ↔ Q (.bl (!decide (i = j))) h := by
  have e : neD (.int i) (.int j) h = .ok (.bl (!decide (i = j))) h := by
    have e : eqO h (.int i) (.int j) = some (i == j) := by simp [eqO, toPy, SeqAt.shaped, PyData.canLay0, PyData.depth, PyData.eqv]
    unfold neD
    rw [e]
    rfl
  rw [e]; exact Iff.rfl
@[simp] theorem rp_eqB {i j : Bool} : rp (eqD (.bl i) (.bl j) h) Q ↔ Q (.bl (i == j)) h := by
  have e : eqD (.bl i) (.bl j) h = .ok (.bl (i == j)) h := by
    have e : eqO h (.bl i) (.bl j) = some (i == j) := by simp [eqO, toPy, SeqAt.shaped, PyData.canLay0, PyData.depth, PyData.eqv]
    unfold eqD
    rw [e]
  rw [e]; exact Iff.rfl
@[simp] theorem rp_neB {i j : Bool} : rp (neD (.bl i) (.bl j) h) Q ↔ Q (.bl (!(i == j))) h := by
  have e : neD (.bl i) (.bl j) h = .ok (.bl (!(i == j))) h := by
    have e : eqO h (.bl i) (.bl j) = some (i == j) := by simp [eqO, toPy, SeqAt.shaped, PyData.canLay0, PyData.depth, PyData.eqv]
    unfold neD
    rw [e]
  rw [e]; exact Iff.rfl
@[simp] theorem rp_isN {d : D} : rp (isND d .non h) Q ↔ Q (.bl (isN d)) h := by cases d <;> exact Iff.rfl
@[simp] theorem rp_notN {d : D} : rp (notND d .non h) Q ↔ Q (.bl (!isN d)) h := by cases d <;> exact Iff.rfl
@[simp] theorem rp_ixT {xs : List D} {i : Int} : rp (ixD (.tup xs) (.int i) h) Q ↔ ∃ d, atI xs i = some d ∧ Q d h := by
  show rp (match atI xs i with | some d => R.ok d h | none => .no) Q ↔ _
  cases e : atI xs i with
  | none => constructor
            · intro x; exact x.elim
            · rintro ⟨b, z, _⟩; cases z
  | some b => simp
@[simp] theorem rp_ixL {n : Nat} {i : Int} : rp (ixD (.ref n) (.int i) h) Q ↔ ∃ xs d, anyAt h n = some xs ∧ atI xs i = some d ∧ Q d h := by
  show rp (match anyAt h n with | some xs => (match atI xs i with | some d => R.ok d h | none => .no) | none => .no) Q ↔ _
  cases e : anyAt h n with
  | none => constructor
            · intro x; exact x.elim
            · rintro ⟨xs, b, z, _⟩; cases z
  | some xs =>
    dsimp only
    cases e2 : atI xs i with
    | none => constructor
              · intro x; exact False.elim x
              · rintro ⟨ys, b, z, z2, _⟩; cases z; rw [e2] at z2; cases z2
    | some b => constructor
                · intro x; exact ⟨xs, b, rfl, e2, x⟩
                · rintro ⟨ys, b', z, z2, q⟩; cases z; rw [e2] at z2; cases z2; exact q
@[simp] theorem rp_slT {xs : List D} {lo hi : Option Int} : rp (slD (.tup xs) lo hi h) Q ↔ Q (.tup (cutD xs lo hi)) h := Iff.rfl
@[simp] theorem rp_seqT {xs : List D} {P : Wk → Sto → Prop} : rp (seqF (.tup xs) h) P ↔ P (.tup xs) h := Iff.rfl
@[simp] theorem rp_rng1 {j : Int} {P : Wk → Sto → Prop} : rp (rng1F [.int j] h) P ↔ (-(2 ^ 62) ≤ j ∧ j < 2 ^ 62) ∧ P (.rng 0 j.toNat) h := by
  show rp (if _ then _ else _) P ↔ _
  by_cases c : -(2 ^ 62) ≤ j ∧ j < 2 ^ 62
  · rw [if_pos c]; exact ⟨fun y => ⟨c, y⟩, fun y => y.2⟩
  · rw [if_neg c]; exact ⟨fun y => y.elim, fun y => (c y.1).elim⟩
@[simp] theorem rp_enT {xs : List D} {P : Wk → Sto → Prop} : rp (enF [.tup xs] h) P ↔ P (.enT xs) h := Iff.rfl
@[simp] theorem rp_zipT {xs ys : List D} {P : Wk → Sto → Prop} : rp (zipF [.tup xs, .tup ys] h) P ↔ P (.zipT xs ys) h := Iff.rfl
@[simp] theorem rp_lenT {xs : List D} : rp (lenF [.tup xs] h) Q ↔ Q (.int xs.length) h := Iff.rfl
@[simp] theorem rp_lenL {n : Nat} : rp (lenF [.ref n] h) Q ↔ ∃ xs, anyAt h n = some xs ∧ Q (.int xs.length) h := by
  show rp (match anyAt h n with | some xs => R.ok (.int xs.length) h | none => .no) Q ↔ _
  cases e : anyAt h n with
  | none => constructor
            · intro x; exact x.elim
            · rintro ⟨b, z, _⟩; cases z
  | some b => simp
@[simp] theorem rp_abs {i : Int} : rp (absF [.int i] h) Q ↔ Q (.int (if i < 0 then -i else i)) h := Iff.rfl
@[simp] theorem rp_int {i : Int} : rp (intF [.int i] h) Q ↔ Q (.int i) h := Iff.rfl
@[simp] theorem rp_intB {b : Bool} : rp (intF [.bl b] h) Q ↔ Q (.int (if b then 1 else 0)) h := Iff.rfl
@[simp] theorem tru_bl {b : Bool} : truO h (.bl b) = some b := rfl
@[simp] theorem tru_int {i : Int} : truO h (.int i) = some (i != 0) := rfl
@[simp] theorem tru_tup {xs : List D} : truO h (.tup xs) = some (!xs.isEmpty) := rfl
@[simp] theorem tru_non : truO h .non = some false := rfl
/-! statements -/
variable {Pn : Sl → Sto → Prop}
@[simp] theorem ro_seqS {m k : MS} : ro (mSeqS m k ρ h) Pn Q ↔ ro (m ρ h) (fun ρ h => ro (k ρ h) Pn Q) Q := by
  unfold mSeqS
  cases m ρ h <;> exact Iff.rfl
@[simp] theorem ro_nxS : ro (mNx ρ h) Pn Q ↔ Pn ρ h := Iff.rfl
@[simp] theorem ro_set {i : Nat} {m : ME} : ro (mSet i m ρ h) Pn Q ↔ rp (m ρ h) fun d h1 => Pn (ρ.set i (some d)) h1 := by unfold mSet; simp
@[simp] theorem ro_ret {m : ME} : ro (mRet m ρ h) Pn Q ↔ rp (m ρ h) Q := by unfold mRet; simp
@[simp] theorem ro_drop {m : ME} : ro (mDrop m ρ h) Pn Q ↔ rp (m ρ h) fun _ h1 => Pn ρ h1 := by unfold mDrop; simp
@[simp] theorem ro_ifS {t : MT} {m k : MS} : ro (mIfS t m k ρ h) Pn Q ↔ rp (t ρ h) fun b h1 => if b = true then ro (m ρ h1) Pn Q else ro (k ρ h1) Pn Q := by
  unfold mIfS
  rw [ro_into]
  constructor <;> intro x <;> refine rp_mono x fun b h1 y => ?_ <;> cases b <;> exact y
@[simp] theorem ro_par {i j : Nat} {m k : ME} : ro (mPar i j m k ρ h) Pn Q ↔ rp (m ρ h) fun x h1 => rp (k ρ h1) fun y h2 => Pn ((ρ.set i (some x)).set j (some y)) h2 := by unfold mPar; simp
@[simp] theorem ro_unp {t : Tg} {m : ME} : ro (mUnp t m ρ h) Pn Q ↔ rp (m ρ h) fun d h1 => ∃ ρ1, setTg t d ρ h1 = some ρ1 ∧ Pn ρ1 h1 := by
  unfold mUnp
  rw [ro_into]
  constructor <;> intro x <;> refine rp_mono x fun d h1 y => ?_
  · cases e : setTg t d ρ h1 with
    | none => rw [e] at y; exact y.elim
    | some ρ1 => rw [e] at y; exact ⟨ρ1, rfl, y⟩
  · obtain ⟨ρ1, e, y⟩ := y; rw [e]; exact y
@[simp] theorem ro_sub {mo mi mv : ME} : ro (mSub mo mi mv ρ h) Pn Q ↔ rp (mv ρ h) fun v h1 => rp (mo ρ h1) fun o h2 => rp (mi ρ h2) fun i h3 => ∃ h4, setF o i v h3 = some h4 ∧ Pn ρ h4 := by
  unfold mSub
  simp only [ro_into]
  constructor <;> intro x <;> refine rp_mono x fun v h1 y => rp_mono y fun o h2 y => rp_mono y fun i h3 y => ?_
  · cases e : setF o i v h3 with
    | none => rw [e] at y; exact y.elim
    | some ρ1 => rw [e] at y; exact ⟨ρ1, rfl, y⟩
  · obtain ⟨ρ1, e, y⟩ := y; rw [e]; exact y
@[simp] theorem ro_aug {i : Nat} {f : D → D → Sto → R D} {m : ME} : ro (mAug i f m ρ h) Pn Q ↔ ∃ x, ρ[i]? = some (some x) ∧ rp (m ρ h) fun y h1 => rp (f x y h1) fun z h2 => Pn (ρ.set i (some z)) h2 := by
  unfold mAug
  split
  · rename_i x e; rw [e]; simp
  · rename_i e; constructor
    · intro x; exact x.elim
    · rintro ⟨d, z, _⟩; exact (e d z).elim
theorem rp_run {n : Nat} {m : MS} {ds : List D} (x : ro (m (ds.map some ++ List.replicate (n - ds.length) none) h) (fun _ h' => Q .non h') Q) : rp (runM n m ds h) Q := by
  unfold runM
  revert x
  cases m (ds.map some ++ List.replicate (n - ds.length) none) h <;> exact id
theorem ro_for {mw : MW} {t : Tg} {b : MS} (x : rp (mw ρ h) fun w h1 => ro (loopS w t b (w.len h1) 0 ρ h1) Pn Q) : ro (mFor mw t b ρ h) Pn Q := by
  unfold mFor
  rw [ro_into]
  exact x
/-- a loop with an invariant of the turn, the slots, the store; what is walked tells its items of the turn alone -/
theorem ro_loop {w : Wk} {t : Tg} {b : MS} (xs : List D) (Inv : Nat → Sl → Sto → Prop) (its : ∀ i ρ h, Inv i ρ h → w.item h i = some xs[i]?)
    (step : ∀ i d ρ h, xs[i]? = some d → Inv i ρ h → ∃ ρ1, setTg t d ρ h = some ρ1 ∧ ro (b ρ1 h) (fun ρ2 h2 => Inv (i + 1) ρ2 h2) Q) (last : ∀ ρ h, Inv xs.length ρ h → Pn ρ h) :
    ∀ (m i : Nat) (ρ : Sl) (h : Sto), xs.length ≤ i + m → i ≤ xs.length → Inv i ρ h → ro (loopS w t b m i ρ h) Pn Q := by
  have fin : ∀ i ρ h m, xs.length = i → Inv i ρ h → ro (loopS w t b m i ρ h) Pn Q := fun i ρ h m e I => by
    unfold loopS
    rw [its i ρ h I, List.getElem?_eq_none (by omega)]
    subst e
    exact last ρ h I
  intro m
  induction m with
  | zero => exact fun i ρ h h1 h2 I => fin i ρ h 0 (by omega) I
  | succ m ih =>
    intro i ρ h h1 h2 I
    by_cases c : xs.length = i
    · exact fin i ρ h _ c I
    · have hi : i < xs.length := by omega
      unfold loopS
      rw [its i ρ h I, List.getElem?_eq_getElem hi]
      dsimp only
      obtain ⟨ρ1, e1, x⟩ := step i xs[i] ρ h (List.getElem?_eq_getElem hi) I
      rw [e1]
      dsimp only
      revert x
      cases b ρ1 h with
      | nx ρ2 h2 => exact fun x => ih (i + 1) ρ2 h2 (by omega) (by omega) x
      | rt d h2 => exact fun x => x
      | bk _ _ => exact fun x => x.elim
      | ct _ _ => exact fun x => x.elim
      | ex _ _ _ => exact fun x => x.elim
      | no => exact fun x => x.elim
end
/-! ### frames: more lists, all others but the urn as they were -/
structure Fu (u : Nat) (h h' : Sto) : Prop where
  len : h.length ≤ h'.length
  old : ∀ i, i ≠ u → i < h.length → h'[i]? = h[i]?
theorem Fu.refl {u : Nat} {h : Sto} : Fu u h h := ⟨Nat.le_refl _, fun _ _ _ => rfl⟩
theorem Fu.trans {u : Nat} {h h1 h2 : Sto} (a : Fu u h h1) (b : Fu u h1 h2) : Fu u h h2 := ⟨Nat.le_trans a.len b.len, fun i hi hl => (b.old i hi (Nat.lt_of_lt_of_le hl a.len)).trans (a.old i hi hl)⟩
theorem Fu.more {u : Nat} {h : Sto} {l : Sto} : Fu u h (h ++ l) := ⟨by simp, fun i _ hl => List.getElem?_append_left hl⟩
theorem Fu.put {u : Nat} {h : Sto} {c : Cl} : Fu u h (h.set u c) := ⟨by simp, fun i hi hl => List.getElem?_set_ne (Ne.symm hi)⟩
theorem Fu.any {u i : Nat} {h h' : Sto} {xs : List D} (f : Fu u h h') (hi : i ≠ u) (e : anyAt h i = some xs) : anyAt h' i = some xs := by
  have hl : i < h.length := by
    unfold anyAt at e
    split at e
    · rename_i q; exact (List.getElem?_eq_some_iff.mp q).1
    · rename_i q; exact (List.getElem?_eq_some_iff.mp q).1
    · cases e
  unfold anyAt at e ⊢
  rw [f.old i hi hl]
  exact e
theorem Fu.lst {u i : Nat} {h h' : Sto} {xs : List D} (f : Fu u h h') (hi : i ≠ u) (e : lstAt h i = some xs) : lstAt h' i = some xs := by
  have hl : i < h.length := (List.getElem?_eq_some_iff.mp (lstAt_of e)).1
  unfold lstAt at e ⊢
  rw [f.old i hi hl]
  exact e
theorem lst_any {h : Sto} {i : Nat} {xs : List D} (e : lstAt h i = some xs) : anyAt h i = some xs := by unfold anyAt; rw [lstAt_of e]
/-- the urn -/
def Ur (k u : Nat) (h : Sto) : Prop := ∃ a b c : Int, h[u]? = some (.lst [.int a, .int b, .int c]) ∧ 0 ≤ a ∧ 0 ≤ c ∧ c ≤ k
theorem Ur.more {k u : Nat} {h l : Sto} (x : Ur k u h) : Ur k u (h ++ l) := by
  obtain ⟨a, b, c, e, q⟩ := x
  exact ⟨a, b, c, by rw [List.getElem?_append_left (List.getElem?_eq_some_iff.mp e).1]; exact e, q⟩
theorem Ur.lt {k u : Nat} {h : Sto} (x : Ur k u h) : u < h.length := by
  obtain ⟨a, b, c, e, q⟩ := x
  exact (List.getElem?_eq_some_iff.mp e).1
end Ml
/-! The mill, part 15: comprehensions told from behind. -/
namespace Ml
open PySem PySem.Spec L2
/-- more lists, no other change -/
def Fx (h h' : Sto) : Prop := ∃ l, h' = h ++ l
theorem Fx.refl {h : Sto} : Fx h h := ⟨[], by simp⟩
theorem Fx.more {h l : Sto} : Fx h (h ++ l) := ⟨l, rfl⟩
theorem Fx.trans {h h1 h2 : Sto} (a : Fx h h1) (b : Fx h1 h2) : Fx h h2 := by
  obtain ⟨l, rfl⟩ := a
  obtain ⟨m, rfl⟩ := b
  exact ⟨l ++ m, by simp⟩
theorem Fx.fu {u : Nat} {h h' : Sto} (a : Fx h h') : Fu u h h' := by obtain ⟨l, rfl⟩ := a; exact .more
theorem Fx.ur {k u : Nat} {h h' : Sto} (a : Fx h h') (x : Ur k u h) : Ur k u h' := by obtain ⟨l, rfl⟩ := a; exact x.more
theorem Fx.any {i : Nat} {h h' : Sto} {xs : List D} (f : Fx h h') (e : anyAt h i = some xs) : anyAt h' i = some xs := by
  obtain ⟨l, rfl⟩ := f
  unfold anyAt at e ⊢
  split at e
  · rename_i q; rw [List.getElem?_append_left (List.getElem?_eq_some_iff.mp q).1, q]; exact e
  · rename_i q; rw [List.getElem?_append_left (List.getElem?_eq_some_iff.mp q).1, q]; exact e
  · cases e
theorem Fx.lst {i : Nat} {h h' : Sto} {xs : List D} (f : Fx h h') (e : lstAt h i = some xs) : lstAt h' i = some xs := by
  obtain ⟨l, rfl⟩ := f
  have q := lstAt_of e
  unfold lstAt
  rw [List.getElem?_append_left (List.getElem?_eq_some_iff.mp q).1, q]
theorem lst_new {h : Sto} {xs : List D} {l : Sto} : lstAt (h ++ .lst xs :: l) h.length = some xs := by
  unfold lstAt
  rw [List.getElem?_append_right (Nat.le_refl _)]
  simp
theorem any_new {h : Sto} {xs : List D} {l : Sto} : anyAt (h ++ .lst xs :: l) h.length = some xs := lst_any lst_new
theorem filterMap_take {f : D → Option D} {xs : List D} {i : Nat} {d : D} (e : xs[i]? = some d) : (xs.take (i + 1)).filterMap f = (xs.take i).filterMap f ++ (f d).toList := by
  rw [List.take_add_one, e, List.filterMap_append]
  cases hq : f d <;> simp [hq]
/-- a comprehension that makes new lists alone -/
theorem rp_loopC {w : Wk} {t : Tg} {ts : MT} {me : ME} {ρ : Sl} {h : Sto} {P : Unit → Sto → Prop} (xs : List D) (f : D → Option D) (its : ∀ i h', Fx h h' → w.item h' i = some xs[i]?) (small : xs.length < 16777216)
    (step : ∀ d ∈ xs, ∀ h', Fx h h' → ∃ ρ1, setTg t d ρ h' = some ρ1 ∧ rp (ts ρ1 h') fun b h2 => Fx h' h2 ∧ (b = true → rp (me ρ1 h2) fun y h3 => Fx h2 h3 ∧ f d = some y) ∧ (b = false → f d = none))
    (last : ∀ l, P () (h ++ .lst (xs.filterMap f) :: l)) : ∀ (m i : Nat) (l : Sto), xs.length ≤ i + m → i ≤ xs.length → rp (loopC w t ts me h.length ρ m i (h ++ .lst ((xs.take i).filterMap f) :: l)) P := by
  have fin : ∀ i m l, xs.length = i → rp (loopC w t ts me h.length ρ m i (h ++ .lst ((xs.take i).filterMap f) :: l)) P := fun i m l e => by
    unfold loopC
    rw [its i _ ⟨_, rfl⟩, List.getElem?_eq_none (by omega)]
    subst e
    rw [List.take_length]
    exact last l
  intro m
  induction m with
  | zero => exact fun i l h1 h2 => fin i 0 l (by omega)
  | succ m ih =>
    intro i l h1 h2
    by_cases c : xs.length = i
    · exact fin i _ l c
    · have hi : i < xs.length := by omega
      have e0 : xs[i]? = some xs[i] := List.getElem?_eq_getElem hi
      unfold loopC
      rw [its i _ ⟨_, rfl⟩, e0]
      dsimp only
      obtain ⟨ρ1, e1, x⟩ := step xs[i] (List.getElem_mem hi) (h ++ .lst ((xs.take i).filterMap f) :: l) ⟨_, rfl⟩
      rw [e1]
      dsimp only
      obtain ⟨b, h2', e2, ⟨l2, e3⟩, yes, no⟩ := rp_of x
      rw [e2]
      subst e3
      have next : ∀ l', rp (loopC w t ts me h.length ρ m (i + 1) (h ++ .lst ((xs.take (i + 1)).filterMap f) :: l')) P := fun l' => ih (i + 1) l' (by omega) (by omega)
      have ft := filterMap_take (f := f) e0
      cases b with
      | false =>
        have hn := no rfl
        rw [hn] at ft
        simp only [Option.toList, List.append_nil] at ft
        have := next (l ++ l2)
        rw [ft] at this
        dsimp only
        rw [List.append_assoc, List.cons_append]
        exact this
      | true =>
        dsimp only
        obtain ⟨y, h3, e4, ⟨l3, e5⟩, fy⟩ := rp_of (yes rfl)
        rw [e4]
        subst e5
        dsimp only
        have e6 : h ++ .lst ((xs.take i).filterMap f) :: l ++ l2 ++ l3 = h ++ .lst ((xs.take i).filterMap f) :: (l ++ l2 ++ l3) := by simp
        rw [e6, lst_new]
        dsimp only
        have hz : ((xs.take i).filterMap f).length < 16777216 := Nat.lt_of_le_of_lt (Nat.le_trans (List.length_filterMap_le _ _) (List.length_take_le _ _)) (by omega)
        rw [if_pos hz]
        have e7 : (h ++ Cl.lst ((xs.take i).filterMap f) :: (l ++ l2 ++ l3)).set h.length (.lst ((xs.take i).filterMap f ++ [y])) = h ++ .lst ((xs.take (i + 1)).filterMap f) :: (l ++ l2 ++ l3) := by
          rw [ft, fy, List.set_append_right _ _ (Nat.le_refl _)]
          simp
        rw [e7]
        exact next _
inductive LcR (w : Wk) (t : Tg) (ts : MT) (me : ME) (ρ : Sl) (h1 : Sto) (Q : D → Sto → Prop) : Prop
  | mk (xs : List D) (f : D → Option D) (its : ∀ i h', Fx h1 h' → w.item h' i = some xs[i]?) (small : xs.length < 16777216) (len : xs.length ≤ w.len h1)
    (step : ∀ d ∈ xs, ∀ h', Fx h1 h' → ∃ ρ1, setTg t d ρ h' = some ρ1 ∧ rp (ts ρ1 h') fun b h2 => Fx h' h2 ∧ (b = true → rp (me ρ1 h2) fun y h3 => Fx h2 h3 ∧ f d = some y) ∧ (b = false → f d = none))
    (q : ∀ l, Q (.ref h1.length) (h1 ++ .lst (xs.filterMap f) :: l)) : LcR w t ts me ρ h1 Q
theorem rp_lc {mw : MW} {t : Tg} {ts : MT} {me : ME} {vs : List Nat} {ρ : Sl} {h : Sto} {Q : D → Sto → Prop} (x : rp (mw ρ h) fun w h1 => LcR w t ts me (wipeD ρ vs) h1 Q) : rp (mLc mw t ts me vs ρ h) Q := by
  unfold mLc
  rw [rp_bind]
  refine rp_mono x fun w h1 ⟨xs, f, its, small, hl, step, q⟩ => ?_
  rw [rp_bind]
  have := rp_loopC (P := fun _ h2 => Q (.ref h1.length) h2) xs f its small step q (w.len h1) 0 [] (by omega) (Nat.zero_le _)
  simpa using this
/-- .. without a test, over a tuple -/
theorem rp_lcT {m : ME} {t : Tg} {me : ME} {vs : List Nat} {ρ : Sl} {h : Sto} {Q : D → Sto → Prop} (xs : List D) (f : D → D) (hm : m ρ h = .ok (.tup xs) h) (small : xs.length < 16777216)
    (step : ∀ d ∈ xs, ∀ h', Fx h h' → ∃ ρ1, setTg t d (wipeD ρ vs) h' = some ρ1 ∧ rp (me ρ1 h') fun y h3 => Fx h' h3 ∧ y = f d) (q : ∀ l, Q (.ref h.length) (h ++ .lst (xs.map f) :: l)) : rp (mLc (mSeq m) t mYes me vs ρ h) Q := by
  refine rp_lc ?_
  rw [rp_seq, hm]
  refine .mk xs (fun d => some (f d)) (fun _ _ _ => rfl) small (Nat.le_refl _) (fun d hd h' fx => ?_) fun l => ?_
  · obtain ⟨ρ1, e, x⟩ := step d hd h' fx
    exact ⟨ρ1, e, Fx.refl, fun _ => rp_mono x fun y h3 z => ⟨z.1, by rw [z.2]⟩, fun z => nomatch z⟩
  · rw [List.filterMap_eq_map']
    exact q l
/-! what takes the new list -/
section
variable {h l : Sto} {Q : D → Sto → Prop}
theorem allBl_map {β : Type} {f : β → Bool} : ∀ xs : List β, allBl (xs.map fun x => D.bl (f x)) = some (xs.map f)
  | [] => rfl
  | x :: xs => by simp [allBl, allBl_map xs]
theorem allInt_map {β : Type} {f : β → Int} : ∀ xs : List β, allInt (xs.map fun x => D.int (f x)) = some (xs.map f)
  | [] => rfl
  | x :: xs => by simp [allInt, allInt_map xs]
theorem rp_allF {n : Nat} {xs : List D} {bs : List Bool} (e : anyAt h n = some xs) (e2 : allBl xs = some bs) (q : Q (.bl (bs.all id)) h) : rp (allF [.ref n] h) Q := by
  show rp (match anyAt h n with | some xs => (match allBl xs with | some is => R.ok (.bl (is.all id)) h | none => .no) | none => .no) Q
  rw [e]; dsimp only; rw [e2]; exact q
theorem rp_anyF {n : Nat} {xs : List D} {bs : List Bool} (e : anyAt h n = some xs) (e2 : allBl xs = some bs) (q : Q (.bl (bs.any id)) h) : rp (anyF [.ref n] h) Q := by
  show rp (match anyAt h n with | some xs => (match allBl xs with | some is => R.ok (.bl (is.any id)) h | none => .no) | none => .no) Q
  rw [e]; dsimp only; rw [e2]; exact q
theorem rp_sumL {n : Nat} {xs : List D} {is : List Int} (e : anyAt h n = some xs) (e2 : allInt xs = some is) (q : Q (.int is.sum) h) : rp (sumF [.ref n] h) Q := by
  show rp (match anyAt h n with | some xs => (match allInt xs with | some is => R.ok (.int is.sum) h | none => .no) | none => .no) Q
  rw [e]; dsimp only; rw [e2]; exact q
theorem rp_sumT {xs : List D} {is : List Int} (e2 : allInt xs = some is) (q : Q (.int is.sum) h) : rp (sumF [.tup xs] h) Q := by
  show rp (match allInt xs with | some is => R.ok (.int is.sum) h | none => .no) Q
  rw [e2]; exact q
theorem rp_tupL {n : Nat} {xs : List D} (e : anyAt h n = some xs) (q : Q (.tup xs) h) : rp (tupF [.ref n] h) Q := by
  show rp (match anyAt h n with | some xs => R.ok (.tup xs) h | none => .no) Q
  rw [e]; exact q
end
section
variable {ρ : Sl} {h : Sto} {Q : D → Sto → Prop} {Pn : Sl → Sto → Prop}
@[simp] theorem rp_boolD {d : D} {P : Bool → Sto → Prop} : rp (boolD d h) P ↔ ∃ b, d = .bl b ∧ P b h := by
  cases d with
  | bl b => exact ⟨fun x => ⟨b, rfl, x⟩, fun ⟨_, e, x⟩ => by cases e; exact x⟩
  | _ => exact ⟨fun x => x.elim, fun ⟨_, e, x⟩ => by cases e⟩
theorem rp_chain {f g : D → D → Sto → R D} {m k l : ME} (x : rp (m ρ h) fun x h1 => rp (k ρ h1) fun y h2 => rp (f x y h2) fun z h3 => ∃ b, z = .bl b ∧ if b = true then rp (l ρ h3) fun w h4 => rp (g y w h4) Q else Q z h3) : rp (mChain f g m k l ρ h) Q := by
  unfold mChain
  rw [rp_bind]
  refine rp_mono x fun x h1 x1 => ?_
  rw [rp_bind]
  refine rp_mono x1 fun y h2 x2 => ?_
  rw [rp_bind]
  refine rp_mono x2 fun z h3 ⟨b, e, x3⟩ => ?_
  subst e
  rw [rp_bind, rp_boolD]
  refine ⟨b, rfl, ?_⟩
  cases b with
  | true => simpa using x3
  | false => simpa using x3
theorem ro_loop_go {w : Wk} {t : Tg} {b : MS} {m i : Nat} {d : D} {ρ1 : Sl} (e : w.item h i = some (some d)) (e2 : setTg t d ρ h = some ρ1) (x : ro (b ρ1 h) (fun ρ2 h2 => ro (loopS w t b m (i + 1) ρ2 h2) Pn Q) Q) : ro (loopS w t b (m + 1) i ρ h) Pn Q := by
  unfold loopS
  rw [e]
  dsimp only
  rw [e2]
  dsimp only
  revert x
  cases b ρ1 h with
  | nx ρ2 h2 => exact fun x => x
  | rt d h2 => exact fun x => x
  | bk _ _ => exact fun x => x.elim
  | ct _ _ => exact fun x => x.elim
  | ex _ _ _ => exact fun x => x.elim
  | no => exact fun x => x.elim
theorem ro_loop_end {w : Wk} {t : Tg} {b : MS} {m i : Nat} (e : w.item h i = some none) (x : Pn ρ h) : ro (loopS w t b m i ρ h) Pn Q := by
  unfold loopS
  rw [e]
  exact x
end
theorem rp_lenSet {m : ME} {ρ : Sl} {h : Sto} {Q : D → Sto → Prop} (x : rp (m ρ h) fun d h1 => ∃ n xs ns, d = .ref n ∧ anyAt h1 n = some xs ∧ allInt xs = some ns ∧ ns.length ≤ 4000 ∧ Q (.int (dedup ns).length) h1) : rp (mLenSet m ρ h) Q := by
  unfold mLenSet
  rw [rp_bind]
  refine rp_mono x fun d h1 ⟨n, xs, ns, e, e1, e2, e3, q⟩ => ?_
  subst e
  dsimp only
  rw [e1]
  dsimp only
  rw [e2]
  dsimp only
  rw [if_pos e3]
  exact q
theorem dedup_nodup {ns : List Int} (h : ns.Nodup) : dedup ns = ns := by
  have key : ∀ (ns acc : List Int), (acc ++ ns).Nodup → ns.foldl PyProof.Rows.step_dedup acc = acc ++ ns := by
    intro ns
    induction ns with
    | nil => intro acc _; simp
    | cons n ns ih =>
      intro acc hd
      have hn : n ∉ acc := by
        intro z
        have := List.nodup_append.mp hd
        exact this.2.2 n z n (List.mem_cons_self ..) rfl
      have e : PyProof.Rows.step_dedup acc n = acc ++ [n] := by simp [PyProof.Rows.step_dedup, hn]
      rw [List.foldl_cons, e, ih (acc ++ [n]) (by simpa using hd)]
      simp
  simpa [dedup] using key ns [] (by simpa using h)
@[simp] theorem rp_intF2 {f : Int → Int → Int} {i j : Int} {h : Sto} {Q : D → Sto → Prop} : rp (intF2 f (.int i) (.int j) h) Q ↔ Q (.int (f i j)) h := Iff.rfl
/-- a comprehension with an invariant -/
theorem rp_loopC_inv {w : Wk} {t : Tg} {ts : MT} {me : ME} {ρ : Sl} {n : Nat} {P : Unit → Sto → Prop} (xs : List D) (I : Nat → List D → Sto → Prop) (its : ∀ i acc h, I i acc h → w.item h i = some xs[i]?) (small : ∀ i acc h, I i acc h → acc.length < 16777216)
    (step : ∀ i d acc h, xs[i]? = some d → I i acc h → ∃ ρ1, setTg t d ρ h = some ρ1 ∧ rp (ts ρ1 h) fun b h2 => (b = true → rp (me ρ1 h2) fun y h3 => lstAt h3 n = some acc ∧ I (i + 1) (acc ++ [y]) (h3.set n (.lst (acc ++ [y])))) ∧ (b = false → I (i + 1) acc h2))
    (last : ∀ acc h, I xs.length acc h → P () h) : ∀ (m i : Nat) (acc : List D) (h : Sto), xs.length ≤ i + m → i ≤ xs.length → I i acc h → rp (loopC w t ts me n ρ m i h) P := by
  have fin : ∀ i m acc h, xs.length = i → I i acc h → rp (loopC w t ts me n ρ m i h) P := fun i m acc h e x => by
    unfold loopC
    rw [its i acc h x, List.getElem?_eq_none (by omega)]
    subst e
    exact last acc h x
  intro m
  induction m with
  | zero => exact fun i acc h h1 h2 => fin i 0 acc h (by omega)
  | succ m ih =>
    intro i acc h h1 h2 x
    by_cases c : xs.length = i
    · exact fin i _ acc h c x
    · have hi : i < xs.length := by omega
      have e0 : xs[i]? = some xs[i] := List.getElem?_eq_getElem hi
      unfold loopC
      rw [its i acc h x, e0]
      dsimp only
      obtain ⟨ρ1, e1, y⟩ := step i xs[i] acc h e0 x
      rw [e1]
      dsimp only
      obtain ⟨b, h2', e2, yes, no⟩ := rp_of y
      rw [e2]
      cases b with
      | false => exact ih (i + 1) acc h2' (by omega) (by omega) (no rfl)
      | true =>
        dsimp only
        obtain ⟨z, h3, e4, e5, x'⟩ := rp_of (yes rfl)
        rw [e4]
        dsimp only
        rw [e5]
        dsimp only
        rw [if_pos (small i acc h x)]
        exact ih (i + 1) _ _ (by omega) (by omega) x'
theorem atI_map {β γ : Type} {f : β → γ} {xs : List β} {i : Int} : atI (xs.map f) i = (atI xs i).map f := by
  unfold atI
  rw [List.length_map]
  cases ixN xs.length i with
  | none => rfl
  | some j => simp
theorem Fu.fx {u : Nat} {h h' : Sto} (f : Fu u h h') (hu : h.length ≤ u) : Fx h h' := by
  refine ⟨h'.drop h.length, List.ext_getElem? fun i => ?_⟩
  by_cases c : i < h.length
  · rw [List.getElem?_append_left c]
    exact f.old i (by omega) c
  · rw [List.getElem?_append_right (by omega), List.getElem?_drop]
    congr 1
    omega
theorem ro_step {m k : MS} {ρ : Sl} {h : Sto} {Pn T : Sl → Sto → Prop} {Q : D → Sto → Prop} (x : ∀ R : Sl → Sto → Prop, (∀ ρ1 h1, T ρ1 h1 → R ρ1 h1) → ro (m ρ h) R Q) (y : ∀ ρ1 h1, T ρ1 h1 → ro (k ρ1 h1) Pn Q) : ro (mSeqS m k ρ h) Pn Q := ro_seqS.2 (x _ y)
@[simp] theorem rp_neg {m : ME} {ρ : Sl} {h : Sto} {Q : D → Sto → Prop} : rp (mNeg m ρ h) Q ↔ rp (m ρ h) fun d h1 => rp (negD d h1) Q := by unfold mNeg; simp
@[simp] theorem rp_negD {i : Int} {h : Sto} {Q : D → Sto → Prop} : rp (negD (.int i) h) Q ↔ Q (.int (-i)) h := Iff.rfl
theorem rp_app {mo me : ME} {ρ : Sl} {h : Sto} {Q : D → Sto → Prop} (x : rp (mo ρ h) fun o h1 => ∃ n, o = .ref n ∧ (∃ ys, lstAt h1 n = some ys) ∧ rp (me ρ h1) fun y h2 => ∃ xs, lstAt h2 n = some xs ∧ xs.length < 16777216 ∧ Q .non (h2.set n (.lst (xs ++ [y])))) : rp (mApp mo me ρ h) Q := by
  unfold mApp
  rw [rp_bind]
  refine rp_mono x fun o h1 ⟨n, e, ⟨ys, e1⟩, y⟩ => ?_
  subst e
  dsimp only
  rw [e1]
  dsimp only
  rw [rp_bind]
  refine rp_mono y fun d h2 ⟨xs, e2, e3, q⟩ => ?_
  rw [e2]
  dsimp only
  rw [if_pos e3]
  exact q
end Ml
/-! The mill, part 16: the same rules for words that do not unfold by themselves. -/
namespace Ml
open PySem PySem.Spec L2
def wp {β : Type} (r : R β) (P : β → Sto → Prop) : Prop := ∃ b h, r = .ok b h ∧ P b h
def wo (o : O) (Pn : Sl → Sto → Prop) (Pr : D → Sto → Prop) : Prop := (∃ ρ h, o = .nx ρ h ∧ Pn ρ h) ∨ ∃ d h, o = .rt d h ∧ Pr d h
theorem wp_eq {β : Type} {r : R β} {P : β → Sto → Prop} : wp r P = rp r P := by
  apply propext
  constructor
  · rintro ⟨b, h, e, y⟩; subst e; exact y
  · intro x
    cases r with
    | ok b h => exact ⟨b, h, rfl, x⟩
    | ex _ _ => exact x.elim
    | no => exact x.elim
theorem wo_eq {o : O} {Pn : Sl → Sto → Prop} {Pr : D → Sto → Prop} : wo o Pn Pr = ro o Pn Pr := by
  apply propext
  constructor
  · rintro (⟨b, h, e, y⟩ | ⟨b, h, e, y⟩) <;> subst e <;> exact y
  · intro x
    cases o with
    | nx ρ h => exact .inl ⟨ρ, h, rfl, x⟩
    | rt d h => exact .inr ⟨d, h, rfl, x⟩
    | bk _ _ => exact x.elim
    | ct _ _ => exact x.elim
    | ex _ _ _ => exact x.elim
    | no => exact x.elim
inductive LcAt (w : Wk) (t : Tg) (ts : MT) (me : ME) (ρ : Sl) (h1 : Sto) (Q : D → Sto → Prop) : Prop
  | mk (xs : List D) (f : D → Option D) (its : ∀ i h', Fx h1 h' → w.item h' i = some xs[i]?) (small : xs.length < 16777216) (len : xs.length ≤ w.len h1)
    (step : ∀ d ∈ xs, ∀ h', Fx h1 h' → ∃ ρ1, setTg t d ρ h' = some ρ1 ∧ wp (ts ρ1 h') fun b h2 => Fx h' h2 ∧ (b = true → wp (me ρ1 h2) fun y h3 => Fx h2 h3 ∧ f d = some y) ∧ (b = false → f d = none))
    (q : ∀ l, Q (.ref h1.length) (h1 ++ .lst (xs.filterMap f) :: l)) : LcAt w t ts me ρ h1 Q
theorem LcAt.raw {w : Wk} {t : Tg} {ts : MT} {me : ME} {ρ : Sl} {h1 : Sto} {Q : D → Sto → Prop} (x : LcAt w t ts me ρ h1 Q) : LcR w t ts me ρ h1 Q := by
  obtain ⟨xs, f, its, small, len, step, q⟩ := x
  refine .mk xs f its small len ?_ q
  simpa only [wp_eq] using step
theorem wp_of {β : Type} {r : R β} {P : β → Sto → Prop} (x : wp r P) : ∃ b h, r = .ok b h ∧ P b h := by
  first
    | (simp only [wp_eq, wo_eq]; exact rp_of)
    | (simp only [wp_eq, wo_eq] at *; apply rp_of <;> assumption)
theorem wp_mono {β : Type} {r : R β} {P Q : β → Sto → Prop} (x : wp r P) (f : ∀ b h, P b h → Q b h) : wp r Q := by
  first
    | (simp only [wp_eq, wo_eq]; exact rp_mono)
    | (simp only [wp_eq, wo_eq] at *; apply rp_mono <;> assumption)
theorem wo_mono {o : O} {P P' : Sl → Sto → Prop} {Q Q' : D → Sto → Prop} (x : wo o P Q) (f : ∀ b h, P b h → P' b h) (g : ∀ b h, Q b h → Q' b h) : wo o P' Q' := by
  first
    | (simp only [wp_eq, wo_eq]; exact ro_mono)
    | (simp only [wp_eq, wo_eq] at *; apply ro_mono <;> assumption)
section
variable {β γ : Type} {P : β → Sto → Prop} {Q : D → Sto → Prop} {ρ : Sl} {h : Sto}
@[simp] theorem wp_ok {b : β} : wp (.ok b h) P ↔ P b h := by
  first
    | (simp only [wp_eq, wo_eq]; exact rp_ok)
    | (simp only [wp_eq, wo_eq] at *; apply rp_ok <;> assumption)
@[simp] theorem wp_bind {r : R γ} {k : γ → Sto → R β} : wp (r.bind k) P ↔ wp r fun b h => wp (k b h) P := by
  first
    | (simp only [wp_eq, wo_eq]; exact rp_bind)
    | (simp only [wp_eq, wo_eq] at *; apply rp_bind <;> assumption)
@[simp] theorem wo_into {r : R γ} {k : γ → Sto → O} {Pn : Sl → Sto → Prop} : wo (r.into ρ k) Pn Q ↔ wp r fun b h => wo (k b h) Pn Q := by
  first
    | (simp only [wp_eq, wo_eq]; exact ro_into)
    | (simp only [wp_eq, wo_eq] at *; apply ro_into <;> assumption)
@[simp] theorem wo_nx {Pn : Sl → Sto → Prop} : wo (.nx ρ h) Pn Q ↔ Pn ρ h := by
  first
    | (simp only [wp_eq, wo_eq]; exact ro_nx)
    | (simp only [wp_eq, wo_eq] at *; apply ro_nx <;> assumption)
@[simp] theorem wo_rt {d : D} {Pn : Sl → Sto → Prop} : wo (.rt d h) Pn Q ↔ Q d h := by
  first
    | (simp only [wp_eq, wo_eq]; exact ro_rt)
    | (simp only [wp_eq, wo_eq] at *; apply ro_rt <;> assumption)
@[simp] theorem wp_var {i : Nat} : wp (mVar i ρ h) Q ↔ ∃ d, ρ[i]? = some (some d) ∧ Q d h := by
  first
    | (simp only [wp_eq, wo_eq]; exact rp_var)
    | (simp only [wp_eq, wo_eq] at *; apply rp_var <;> assumption)
@[simp] theorem wp_c {d : D} : wp (mC d ρ h) Q ↔ Q d h := by
  first
    | (simp only [wp_eq, wo_eq]; exact rp_c)
    | (simp only [wp_eq, wo_eq] at *; apply rp_c <;> assumption)
@[simp] theorem wp_nil {P : List D → Sto → Prop} : wp (mNil ρ h) P ↔ P [] h := by
  first
    | (simp only [wp_eq, wo_eq]; exact rp_nil)
    | (simp only [wp_eq, wo_eq] at *; apply rp_nil <;> assumption)
@[simp] theorem wp_cons {m : ME} {k : MA} {P : List D → Sto → Prop} : wp (mCons m k ρ h) P ↔ wp (m ρ h) fun d h1 => wp (k ρ h1) fun ds h2 => P (d :: ds) h2 := by
  first
    | (simp only [wp_eq, wo_eq]; exact rp_cons)
    | (simp only [wp_eq, wo_eq] at *; apply rp_cons <;> assumption)
@[simp] theorem wp_bin {f : D → D → Sto → R D} {m k : ME} : wp (mBin f m k ρ h) Q ↔ wp (m ρ h) fun x h1 => wp (k ρ h1) fun y h2 => wp (f x y h2) Q := by
  first
    | (simp only [wp_eq, wo_eq]; exact rp_bin)
    | (simp only [wp_eq, wo_eq] at *; apply rp_bin <;> assumption)
@[simp] theorem wp_call {f : List D → Sto → R D} {k : MA} : wp (mCall f k ρ h) Q ↔ wp (k ρ h) fun ds h1 => wp (f ds h1) Q := by
  first
    | (simp only [wp_eq, wo_eq]; exact rp_call)
    | (simp only [wp_eq, wo_eq] at *; apply rp_call <;> assumption)
@[simp] theorem wp_tup {k : MA} : wp (mTup k ρ h) Q ↔ wp (k ρ h) fun ds h1 => ds.length ≤ 16777216 ∧ Q (.tup ds) h1 := by
  first
    | (simp only [wp_eq, wo_eq]; exact rp_tup)
    | (simp only [wp_eq, wo_eq] at *; apply rp_tup <;> assumption)
@[simp] theorem wp_lst {k : MA} : wp (mLst k ρ h) Q ↔ wp (k ρ h) fun ds h1 => ds.length ≤ 16777216 ∧ Q (.ref h1.length) (h1 ++ [.lst ds]) := by
  first
    | (simp only [wp_eq, wo_eq]; exact rp_lst)
    | (simp only [wp_eq, wo_eq] at *; apply rp_lst <;> assumption)
@[simp] theorem wp_if {t : MT} {m k : ME} : wp (mIf t m k ρ h) Q ↔ wp (t ρ h) fun b h1 => if b = true then wp (m ρ h1) Q else wp (k ρ h1) Q := by
  first
    | (simp only [wp_eq, wo_eq]; exact rp_if)
    | (simp only [wp_eq, wo_eq] at *; apply rp_if <;> assumption)
@[simp] theorem wp_tb {m : ME} {P : Bool → Sto → Prop} : wp (mTB m ρ h) P ↔ wp (m ρ h) fun d h1 => ∃ b, d = .bl b ∧ P b h1 := by
  first
    | (simp only [wp_eq, wo_eq]; exact rp_tb)
    | (simp only [wp_eq, wo_eq] at *; apply rp_tb <;> assumption)
@[simp] theorem wp_tru {m : ME} {P : Bool → Sto → Prop} : wp (mTru m ρ h) P ↔ wp (m ρ h) fun d h1 => ∃ b, truO h1 d = some b ∧ P b h1 := by
  first
    | (simp only [wp_eq, wo_eq]; exact rp_tru)
    | (simp only [wp_eq, wo_eq] at *; apply rp_tru <;> assumption)
@[simp] theorem wp_notT {m : MT} {P : Bool → Sto → Prop} : wp (mNotT m ρ h) P ↔ wp (m ρ h) fun b h1 => P (!b) h1 := by
  first
    | (simp only [wp_eq, wo_eq]; exact rp_notT)
    | (simp only [wp_eq, wo_eq] at *; apply rp_notT <;> assumption)
@[simp] theorem wp_andT {m k : MT} {P : Bool → Sto → Prop} : wp (mAndT m k ρ h) P ↔ wp (m ρ h) fun b h1 => if b = true then wp (k ρ h1) P else P false h1 := by
  first
    | (simp only [wp_eq, wo_eq]; exact rp_andT)
    | (simp only [wp_eq, wo_eq] at *; apply rp_andT <;> assumption)
@[simp] theorem wp_orT {m k : MT} {P : Bool → Sto → Prop} : wp (mOrT m k ρ h) P ↔ wp (m ρ h) fun b h1 => if b = true then P true h1 else wp (k ρ h1) P := by
  first
    | (simp only [wp_eq, wo_eq]; exact rp_orT)
    | (simp only [wp_eq, wo_eq] at *; apply rp_orT <;> assumption)
@[simp] theorem wp_truD {d : D} {P : Bool → Sto → Prop} : wp (truD d h) P ↔ ∃ b, truO h d = some b ∧ P b h := by
  first
    | (simp only [wp_eq, wo_eq]; exact rp_truD)
    | (simp only [wp_eq, wo_eq] at *; apply rp_truD <;> assumption)
@[simp] theorem wp_not {m : ME} : wp (mNot m ρ h) Q ↔ wp (m ρ h) fun d h1 => ∃ b, truO h1 d = some b ∧ Q (.bl (!b)) h1 := by
  first
    | (simp only [wp_eq, wo_eq]; exact rp_not)
    | (simp only [wp_eq, wo_eq] at *; apply rp_not <;> assumption)
@[simp] theorem wp_and {m k : ME} : wp (mAnd m k ρ h) Q ↔ wp (m ρ h) fun d h1 => ∃ b, truO h1 d = some b ∧ if b = true then wp (k ρ h1) Q else Q d h1 := by
  first
    | (simp only [wp_eq, wo_eq]; exact rp_and)
    | (simp only [wp_eq, wo_eq] at *; apply rp_and <;> assumption)
@[simp] theorem wp_or {m k : ME} : wp (mOr m k ρ h) Q ↔ wp (m ρ h) fun d h1 => ∃ b, truO h1 d = some b ∧ if b = true then Q d h1 else wp (k ρ h1) Q := by
  first
    | (simp only [wp_eq, wo_eq]; exact rp_or)
    | (simp only [wp_eq, wo_eq] at *; apply rp_or <;> assumption)
@[simp] theorem wp_fn {n : Nat} {g : List D → Sto → R D} {k : MA} : wp (mFn n g k ρ h) Q ↔ wp (k ρ h) fun ds h1 => ds.length = n ∧ wp (g ds h1) Q := by
  first
    | (simp only [wp_eq, wo_eq]; exact rp_fn)
    | (simp only [wp_eq, wo_eq] at *; apply rp_fn <;> assumption)
@[simp] theorem wp_fn0 {g : List D → Sto → R D} : wp (mFn0 g ρ h) Q ↔ wp (g [] h) Q := by
  first
    | (simp only [wp_eq, wo_eq]; exact rp_fn0)
    | (simp only [wp_eq, wo_eq] at *; apply rp_fn0 <;> assumption)
@[simp] theorem wp_noP {P : Option Int → Sto → Prop} : wp (mNoP ρ h) P ↔ P none h := by
  first
    | (simp only [wp_eq, wo_eq]; exact rp_noP)
    | (simp only [wp_eq, wo_eq] at *; apply rp_noP <;> assumption)
@[simp] theorem wp_part {m : ME} {P : Option Int → Sto → Prop} : wp (mPart m ρ h) P ↔ wp (m ρ h) fun d h1 => ∃ i, d = .int i ∧ P (some i) h1 := by
  first
    | (simp only [wp_eq, wo_eq]; exact rp_part)
    | (simp only [wp_eq, wo_eq] at *; apply rp_part <;> assumption)
@[simp] theorem wp_sl {m : ME} {l u : MO} : wp (mSl m l u ρ h) Q ↔ wp (m ρ h) fun x h1 => wp (l ρ h1) fun lo h2 => wp (u ρ h2) fun hi h3 => wp (slD x lo hi h3) Q := by
  first
    | (simp only [wp_eq, wo_eq]; exact rp_sl)
    | (simp only [wp_eq, wo_eq] at *; apply rp_sl <;> assumption)
@[simp] theorem wp_wk {f : List D → Sto → R Wk} {k : MA} {P : Wk → Sto → Prop} : wp (mWk f k ρ h) P ↔ wp (k ρ h) fun ds h1 => wp (f ds h1) P := by
  first
    | (simp only [wp_eq, wo_eq]; exact rp_wk)
    | (simp only [wp_eq, wo_eq] at *; apply rp_wk <;> assumption)
@[simp] theorem wp_seq {m : ME} {P : Wk → Sto → Prop} : wp (mSeq m ρ h) P ↔ wp (m ρ h) fun d h1 => wp (seqF d h1) P := by
  first
    | (simp only [wp_eq, wo_eq]; exact rp_seq)
    | (simp only [wp_eq, wo_eq] at *; apply rp_seq <;> assumption)
@[simp] theorem wp_yes {P : Bool → Sto → Prop} : wp (mYes ρ h) P ↔ P true h := by
  first
    | (simp only [wp_eq, wo_eq]; exact rp_yes)
    | (simp only [wp_eq, wo_eq] at *; apply rp_yes <;> assumption)
@[simp] theorem wp_addI {i j : Int} : wp (addD (.int i) (.int j) h) Q ↔ Q (.int (i + j)) h := by
  first
    | (simp only [wp_eq, wo_eq]; exact rp_addI)
    | (simp only [wp_eq, wo_eq] at *; apply rp_addI <;> assumption)
@[simp] theorem wp_addT {xs ys : List D} : wp (addD (.tup xs) (.tup ys) h) Q ↔ xs.length + ys.length ≤ 16777216 ∧ Q (.tup (xs ++ ys)) h := by
  first
    | (simp only [wp_eq, wo_eq]; exact rp_addT)
    | (simp only [wp_eq, wo_eq] at *; apply rp_addT <;> assumption)
theorem wp_addL {n k : Nat} {xs ys : List D} (e1 : lstAt h n = some xs) (e2 : lstAt h k = some ys) (hz : xs.length + ys.length ≤ 16777216) (q : Q (.ref h.length) (h ++ [.lst (xs ++ ys)])) : wp (addD (.ref n) (.ref k) h) Q := by
  first
    | (simp only [wp_eq, wo_eq]; exact rp_addL)
    | (simp only [wp_eq, wo_eq] at *; apply rp_addL <;> assumption)
@[simp] theorem wp_sub {i j : Int} : wp (int2 subF (.int i) (.int j) h) Q ↔ Q (.int (i - j)) h := by
  first
    | (simp only [wp_eq, wo_eq]; exact rp_sub)
    | (simp only [wp_eq, wo_eq] at *; apply rp_sub <;> assumption)
@[simp] theorem wp_mod {i j : Int} : wp (int2 modF (.int i) (.int j) h) Q ↔ 0 < j ∧ Q (.int (i % j)) h := by
  first
    | (simp only [wp_eq, wo_eq]; exact rp_mod)
    | (simp only [wp_eq, wo_eq] at *; apply rp_mod <;> assumption)
@[simp] theorem wp_div {i j : Int} : wp (int2 fdivF (.int i) (.int j) h) Q ↔ (0 < j ∧ j < 1073741824) ∧ Q (.int (i / j)) h := by
  first
    | (simp only [wp_eq, wo_eq]; exact rp_div)
    | (simp only [wp_eq, wo_eq] at *; apply rp_div <;> assumption)
@[simp] theorem wp_pow {i j : Int} : wp (int2 powF (.int i) (.int j) h) Q ↔ (0 ≤ j ∧ j ≤ 1000000 ∧ i.natAbs < 2 ^ 64) ∧ Q (.int (i ^ j.toNat)) h := by
  first
    | (simp only [wp_eq, wo_eq]; exact rp_pow)
    | (simp only [wp_eq, wo_eq] at *; apply rp_pow <;> assumption)
@[simp] theorem wp_mul {i j : Int} : wp (mulD (.int i) (.int j) h) Q ↔ ((-(2 ^ 64) < i ∧ i < 2 ^ 64) ∨ (-(2 ^ 64) < j ∧ j < 2 ^ 64)) ∧ Q (.int (i * j)) h := by
  first
    | (simp only [wp_eq, wo_eq]; exact rp_mul)
    | (simp only [wp_eq, wo_eq] at *; apply rp_mul <;> assumption)
@[simp] theorem wp_lt {i j : Int} : wp (ltD (.int i) (.int j) h) Q ↔ Q (.bl (decide (i < j))) h := by
  first
    | (simp only [wp_eq, wo_eq]; exact rp_lt)
    | (simp only [wp_eq, wo_eq] at *; apply rp_lt <;> assumption)
@[simp] theorem wp_le {i j : Int} : wp (leD (.int i) (.int j) h) Q ↔ Q (.bl (decide (i ≤ j))) h := by
  first
    | (simp only [wp_eq, wo_eq]; exact rp_le)
    | (simp only [wp_eq, wo_eq] at *; apply rp_le <;> assumption)
@[simp] theorem wp_gt {i j : Int} : wp (gtD (.int i) (.int j) h) Q ↔ Q (.bl (decide (j < i))) h := by
  first
    | (simp only [wp_eq, wo_eq]; exact rp_gt)
    | (simp only [wp_eq, wo_eq] at *; apply rp_gt <;> assumption)
@[simp] theorem wp_ge {i j : Int} : wp (geD (.int i) (.int j) h) Q ↔ Q (.bl (decide (j ≤ i))) h := by
  first
    | (simp only [wp_eq, wo_eq]; exact rp_ge)
    | (simp only [wp_eq, wo_eq] at *; apply rp_ge <;> assumption)
@[simp] theorem wp_eqI {i j : Int} : wp (eqD (.int i) (.int j) h) Q ↔ Q (.bl (decide (i = j))) h := by
  first
    | (simp only [wp_eq, wo_eq]; exact rp_eqI)
    | (simp only [wp_eq, wo_eq] at *; apply rp_eqI <;> assumption)
@[simp] theorem wp_neI {i j : Int} : wp (neD (.int i) (.int j) h) Q ↔ Q (.bl (!decide (i = j))) h := by
  first
    | (simp only [wp_eq, wo_eq]; exact rp_neI)
    | (simp only [wp_eq, wo_eq] at *; apply rp_neI <;> assumption)
@[simp] theorem wp_eqB {i j : Bool} : wp (eqD (.bl i) (.bl j) h) Q ↔ Q (.bl (i == j)) h := by
  first
    | (simp only [wp_eq, wo_eq]; exact rp_eqB)
    | (simp only [wp_eq, wo_eq] at *; apply rp_eqB <;> assumption)
@[simp] theorem wp_neB {i j : Bool} : wp (neD (.bl i) (.bl j) h) Q ↔ Q (.bl (!(i == j))) h := by
  first
    | (simp only [wp_eq, wo_eq]; exact rp_neB)
    | (simp only [wp_eq, wo_eq] at *; apply rp_neB <;> assumption)
@[simp] theorem wp_isN {d : D} : wp (isND d .non h) Q ↔ Q (.bl (isN d)) h := by
  first
    | (simp only [wp_eq, wo_eq]; exact rp_isN)
    | (simp only [wp_eq, wo_eq] at *; apply rp_isN <;> assumption)
@[simp] theorem wp_notN {d : D} : wp (notND d .non h) Q ↔ Q (.bl (!isN d)) h := by
  first
    | (simp only [wp_eq, wo_eq]; exact rp_notN)
    | (simp only [wp_eq, wo_eq] at *; apply rp_notN <;> assumption)
@[simp] theorem wp_ixT {xs : List D} {i : Int} : wp (ixD (.tup xs) (.int i) h) Q ↔ ∃ d, atI xs i = some d ∧ Q d h := by
  first
    | (simp only [wp_eq, wo_eq]; exact rp_ixT)
    | (simp only [wp_eq, wo_eq] at *; apply rp_ixT <;> assumption)
@[simp] theorem wp_ixL {n : Nat} {i : Int} : wp (ixD (.ref n) (.int i) h) Q ↔ ∃ xs d, anyAt h n = some xs ∧ atI xs i = some d ∧ Q d h := by
  first
    | (simp only [wp_eq, wo_eq]; exact rp_ixL)
    | (simp only [wp_eq, wo_eq] at *; apply rp_ixL <;> assumption)
@[simp] theorem wp_slT {xs : List D} {lo hi : Option Int} : wp (slD (.tup xs) lo hi h) Q ↔ Q (.tup (cutD xs lo hi)) h := by
  first
    | (simp only [wp_eq, wo_eq]; exact rp_slT)
    | (simp only [wp_eq, wo_eq] at *; apply rp_slT <;> assumption)
@[simp] theorem wp_seqT {xs : List D} {P : Wk → Sto → Prop} : wp (seqF (.tup xs) h) P ↔ P (.tup xs) h := by
  first
    | (simp only [wp_eq, wo_eq]; exact rp_seqT)
    | (simp only [wp_eq, wo_eq] at *; apply rp_seqT <;> assumption)
@[simp] theorem wp_rng1 {j : Int} {P : Wk → Sto → Prop} : wp (rng1F [.int j] h) P ↔ (-(2 ^ 62) ≤ j ∧ j < 2 ^ 62) ∧ P (.rng 0 j.toNat) h := by
  first
    | (simp only [wp_eq, wo_eq]; exact rp_rng1)
    | (simp only [wp_eq, wo_eq] at *; apply rp_rng1 <;> assumption)
@[simp] theorem wp_enT {xs : List D} {P : Wk → Sto → Prop} : wp (enF [.tup xs] h) P ↔ P (.enT xs) h := by
  first
    | (simp only [wp_eq, wo_eq]; exact rp_enT)
    | (simp only [wp_eq, wo_eq] at *; apply rp_enT <;> assumption)
@[simp] theorem wp_zipT {xs ys : List D} {P : Wk → Sto → Prop} : wp (zipF [.tup xs, .tup ys] h) P ↔ P (.zipT xs ys) h := by
  first
    | (simp only [wp_eq, wo_eq]; exact rp_zipT)
    | (simp only [wp_eq, wo_eq] at *; apply rp_zipT <;> assumption)
@[simp] theorem wp_lenT {xs : List D} : wp (lenF [.tup xs] h) Q ↔ Q (.int xs.length) h := by
  first
    | (simp only [wp_eq, wo_eq]; exact rp_lenT)
    | (simp only [wp_eq, wo_eq] at *; apply rp_lenT <;> assumption)
@[simp] theorem wp_lenL {n : Nat} : wp (lenF [.ref n] h) Q ↔ ∃ xs, anyAt h n = some xs ∧ Q (.int xs.length) h := by
  first
    | (simp only [wp_eq, wo_eq]; exact rp_lenL)
    | (simp only [wp_eq, wo_eq] at *; apply rp_lenL <;> assumption)
@[simp] theorem wp_abs {i : Int} : wp (absF [.int i] h) Q ↔ Q (.int (if i < 0 then -i else i)) h := by
  first
    | (simp only [wp_eq, wo_eq]; exact rp_abs)
    | (simp only [wp_eq, wo_eq] at *; apply rp_abs <;> assumption)
@[simp] theorem wp_int {i : Int} : wp (intF [.int i] h) Q ↔ Q (.int i) h := by
  first
    | (simp only [wp_eq, wo_eq]; exact rp_int)
    | (simp only [wp_eq, wo_eq] at *; apply rp_int <;> assumption)
@[simp] theorem wp_intB {b : Bool} : wp (intF [.bl b] h) Q ↔ Q (.int (if b then 1 else 0)) h := by
  first
    | (simp only [wp_eq, wo_eq]; exact rp_intB)
    | (simp only [wp_eq, wo_eq] at *; apply rp_intB <;> assumption)
variable {Pn : Sl → Sto → Prop}
@[simp] theorem wo_seqS {m k : MS} : wo (mSeqS m k ρ h) Pn Q ↔ wo (m ρ h) (fun ρ h => wo (k ρ h) Pn Q) Q := by
  first
    | (simp only [wp_eq, wo_eq]; exact ro_seqS)
    | (simp only [wp_eq, wo_eq] at *; apply ro_seqS <;> assumption)
@[simp] theorem wo_nxS : wo (mNx ρ h) Pn Q ↔ Pn ρ h := by
  first
    | (simp only [wp_eq, wo_eq]; exact ro_nxS)
    | (simp only [wp_eq, wo_eq] at *; apply ro_nxS <;> assumption)
@[simp] theorem wo_set {i : Nat} {m : ME} : wo (mSet i m ρ h) Pn Q ↔ wp (m ρ h) fun d h1 => Pn (ρ.set i (some d)) h1 := by
  first
    | (simp only [wp_eq, wo_eq]; exact ro_set)
    | (simp only [wp_eq, wo_eq] at *; apply ro_set <;> assumption)
@[simp] theorem wo_ret {m : ME} : wo (mRet m ρ h) Pn Q ↔ wp (m ρ h) Q := by
  first
    | (simp only [wp_eq, wo_eq]; exact ro_ret)
    | (simp only [wp_eq, wo_eq] at *; apply ro_ret <;> assumption)
@[simp] theorem wo_drop {m : ME} : wo (mDrop m ρ h) Pn Q ↔ wp (m ρ h) fun _ h1 => Pn ρ h1 := by
  first
    | (simp only [wp_eq, wo_eq]; exact ro_drop)
    | (simp only [wp_eq, wo_eq] at *; apply ro_drop <;> assumption)
@[simp] theorem wo_ifS {t : MT} {m k : MS} : wo (mIfS t m k ρ h) Pn Q ↔ wp (t ρ h) fun b h1 => if b = true then wo (m ρ h1) Pn Q else wo (k ρ h1) Pn Q := by
  first
    | (simp only [wp_eq, wo_eq]; exact ro_ifS)
    | (simp only [wp_eq, wo_eq] at *; apply ro_ifS <;> assumption)
@[simp] theorem wo_par {i j : Nat} {m k : ME} : wo (mPar i j m k ρ h) Pn Q ↔ wp (m ρ h) fun x h1 => wp (k ρ h1) fun y h2 => Pn ((ρ.set i (some x)).set j (some y)) h2 := by
  first
    | (simp only [wp_eq, wo_eq]; exact ro_par)
    | (simp only [wp_eq, wo_eq] at *; apply ro_par <;> assumption)
@[simp] theorem wo_unp {t : Tg} {m : ME} : wo (mUnp t m ρ h) Pn Q ↔ wp (m ρ h) fun d h1 => ∃ ρ1, setTg t d ρ h1 = some ρ1 ∧ Pn ρ1 h1 := by
  first
    | (simp only [wp_eq, wo_eq]; exact ro_unp)
    | (simp only [wp_eq, wo_eq] at *; apply ro_unp <;> assumption)
@[simp] theorem wo_sub {mo mi mv : ME} : wo (mSub mo mi mv ρ h) Pn Q ↔ wp (mv ρ h) fun v h1 => wp (mo ρ h1) fun o h2 => wp (mi ρ h2) fun i h3 => ∃ h4, setF o i v h3 = some h4 ∧ Pn ρ h4 := by
  first
    | (simp only [wp_eq, wo_eq]; exact ro_sub)
    | (simp only [wp_eq, wo_eq] at *; apply ro_sub <;> assumption)
@[simp] theorem wo_aug {i : Nat} {f : D → D → Sto → R D} {m : ME} : wo (mAug i f m ρ h) Pn Q ↔ ∃ x, ρ[i]? = some (some x) ∧ wp (m ρ h) fun y h1 => wp (f x y h1) fun z h2 => Pn (ρ.set i (some z)) h2 := by
  first
    | (simp only [wp_eq, wo_eq]; exact ro_aug)
    | (simp only [wp_eq, wo_eq] at *; apply ro_aug <;> assumption)
theorem wp_run {n : Nat} {m : MS} {ds : List D} (x : wo (m (ds.map some ++ List.replicate (n - ds.length) none) h) (fun _ h' => Q .non h') Q) : wp (runM n m ds h) Q := by
  first
    | (simp only [wp_eq, wo_eq]; exact rp_run)
    | (simp only [wp_eq, wo_eq] at *; apply rp_run <;> assumption)
theorem wo_for {mw : MW} {t : Tg} {b : MS} (x : wp (mw ρ h) fun w h1 => wo (loopS w t b (w.len h1) 0 ρ h1) Pn Q) : wo (mFor mw t b ρ h) Pn Q := by
  first
    | (simp only [wp_eq, wo_eq]; exact ro_for)
    | (simp only [wp_eq, wo_eq] at *; apply ro_for <;> assumption)
theorem wo_loop {w : Wk} {t : Tg} {b : MS} (xs : List D) (Inv : Nat → Sl → Sto → Prop) (its : ∀ i ρ h, Inv i ρ h → w.item h i = some xs[i]?)
    (step : ∀ i d ρ h, xs[i]? = some d → Inv i ρ h → ∃ ρ1, setTg t d ρ h = some ρ1 ∧ wo (b ρ1 h) (fun ρ2 h2 => Inv (i + 1) ρ2 h2) Q) (last : ∀ ρ h, Inv xs.length ρ h → Pn ρ h) :
    ∀ (m i : Nat) (ρ : Sl) (h : Sto), xs.length ≤ i + m → i ≤ xs.length → Inv i ρ h → wo (loopS w t b m i ρ h) Pn Q := by
  first
    | (simp only [wp_eq, wo_eq]; exact ro_loop)
    | (simp only [wp_eq, wo_eq] at *; apply ro_loop <;> assumption)
end
theorem wp_loopC {w : Wk} {t : Tg} {ts : MT} {me : ME} {ρ : Sl} {h : Sto} {P : Unit → Sto → Prop} (xs : List D) (f : D → Option D) (its : ∀ i h', Fx h h' → w.item h' i = some xs[i]?) (small : xs.length < 16777216)
    (step : ∀ d ∈ xs, ∀ h', Fx h h' → ∃ ρ1, setTg t d ρ h' = some ρ1 ∧ wp (ts ρ1 h') fun b h2 => Fx h' h2 ∧ (b = true → wp (me ρ1 h2) fun y h3 => Fx h2 h3 ∧ f d = some y) ∧ (b = false → f d = none))
    (last : ∀ l, P () (h ++ .lst (xs.filterMap f) :: l)) : ∀ (m i : Nat) (l : Sto), xs.length ≤ i + m → i ≤ xs.length → wp (loopC w t ts me h.length ρ m i (h ++ .lst ((xs.take i).filterMap f) :: l)) P := by
  first
    | (simp only [wp_eq, wo_eq]; exact rp_loopC)
    | (simp only [wp_eq, wo_eq] at *; apply rp_loopC <;> assumption)
theorem wp_lc {mw : MW} {t : Tg} {ts : MT} {me : ME} {vs : List Nat} {ρ : Sl} {h : Sto} {Q : D → Sto → Prop} (x : wp (mw ρ h) fun w h1 => LcAt w t ts me (wipeD ρ vs) h1 Q) : wp (mLc mw t ts me vs ρ h) Q := by
  rw [wp_eq] at x ⊢
  exact rp_lc (rp_mono x fun _ _ y => y.raw)
theorem wp_lcT {m : ME} {t : Tg} {me : ME} {vs : List Nat} {ρ : Sl} {h : Sto} {Q : D → Sto → Prop} (xs : List D) (f : D → D) (hm : m ρ h = .ok (.tup xs) h) (small : xs.length < 16777216)
    (step : ∀ d ∈ xs, ∀ h', Fx h h' → ∃ ρ1, setTg t d (wipeD ρ vs) h' = some ρ1 ∧ wp (me ρ1 h') fun y h3 => Fx h' h3 ∧ y = f d) (q : ∀ l, Q (.ref h.length) (h ++ .lst (xs.map f) :: l)) : wp (mLc (mSeq m) t mYes me vs ρ h) Q := by
  first
    | (simp only [wp_eq, wo_eq]; exact rp_lcT)
    | (simp only [wp_eq, wo_eq] at *; apply rp_lcT <;> assumption)
section
variable {h l : Sto} {Q : D → Sto → Prop}
theorem wp_allF {n : Nat} {xs : List D} {bs : List Bool} (e : anyAt h n = some xs) (e2 : allBl xs = some bs) (q : Q (.bl (bs.all id)) h) : wp (allF [.ref n] h) Q := by
  first
    | (simp only [wp_eq, wo_eq]; exact rp_allF)
    | (simp only [wp_eq, wo_eq] at *; apply rp_allF <;> assumption)
theorem wp_anyF {n : Nat} {xs : List D} {bs : List Bool} (e : anyAt h n = some xs) (e2 : allBl xs = some bs) (q : Q (.bl (bs.any id)) h) : wp (anyF [.ref n] h) Q := by
  first
    | (simp only [wp_eq, wo_eq]; exact rp_anyF)
    | (simp only [wp_eq, wo_eq] at *; apply rp_anyF <;> assumption)
theorem wp_sumL {n : Nat} {xs : List D} {is : List Int} (e : anyAt h n = some xs) (e2 : allInt xs = some is) (q : Q (.int is.sum) h) : wp (sumF [.ref n] h) Q := by
  first
    | (simp only [wp_eq, wo_eq]; exact rp_sumL)
    | (simp only [wp_eq, wo_eq] at *; apply rp_sumL <;> assumption)
theorem wp_sumT {xs : List D} {is : List Int} (e2 : allInt xs = some is) (q : Q (.int is.sum) h) : wp (sumF [.tup xs] h) Q := by
  first
    | (simp only [wp_eq, wo_eq]; exact rp_sumT)
    | (simp only [wp_eq, wo_eq] at *; apply rp_sumT <;> assumption)
theorem wp_tupL {n : Nat} {xs : List D} (e : anyAt h n = some xs) (q : Q (.tup xs) h) : wp (tupF [.ref n] h) Q := by
  first
    | (simp only [wp_eq, wo_eq]; exact rp_tupL)
    | (simp only [wp_eq, wo_eq] at *; apply rp_tupL <;> assumption)
end
section
variable {ρ : Sl} {h : Sto} {Q : D → Sto → Prop} {Pn : Sl → Sto → Prop}
@[simp] theorem wp_boolD {d : D} {P : Bool → Sto → Prop} : wp (boolD d h) P ↔ ∃ b, d = .bl b ∧ P b h := by
  first
    | (simp only [wp_eq, wo_eq]; exact rp_boolD)
    | (simp only [wp_eq, wo_eq] at *; apply rp_boolD <;> assumption)
theorem wp_chain {f g : D → D → Sto → R D} {m k l : ME} (x : wp (m ρ h) fun x h1 => wp (k ρ h1) fun y h2 => wp (f x y h2) fun z h3 => ∃ b, z = .bl b ∧ if b = true then wp (l ρ h3) fun w h4 => wp (g y w h4) Q else Q z h3) : wp (mChain f g m k l ρ h) Q := by
  first
    | (simp only [wp_eq, wo_eq]; exact rp_chain)
    | (simp only [wp_eq, wo_eq] at *; apply rp_chain <;> assumption)
theorem wo_loop_go {w : Wk} {t : Tg} {b : MS} {m i : Nat} {d : D} {ρ1 : Sl} (e : w.item h i = some (some d)) (e2 : setTg t d ρ h = some ρ1) (x : wo (b ρ1 h) (fun ρ2 h2 => wo (loopS w t b m (i + 1) ρ2 h2) Pn Q) Q) : wo (loopS w t b (m + 1) i ρ h) Pn Q := by
  first
    | (simp only [wp_eq, wo_eq]; exact ro_loop_go)
    | (simp only [wp_eq, wo_eq] at *; apply ro_loop_go <;> assumption)
theorem wo_loop_end {w : Wk} {t : Tg} {b : MS} {m i : Nat} (e : w.item h i = some none) (x : Pn ρ h) : wo (loopS w t b m i ρ h) Pn Q := by
  first
    | (simp only [wp_eq, wo_eq]; exact ro_loop_end)
    | (simp only [wp_eq, wo_eq] at *; apply ro_loop_end <;> assumption)
end
theorem wp_lenSet {m : ME} {ρ : Sl} {h : Sto} {Q : D → Sto → Prop} (x : wp (m ρ h) fun d h1 => ∃ n xs ns, d = .ref n ∧ anyAt h1 n = some xs ∧ allInt xs = some ns ∧ ns.length ≤ 4000 ∧ Q (.int (dedup ns).length) h1) : wp (mLenSet m ρ h) Q := by
  first
    | (simp only [wp_eq, wo_eq]; exact rp_lenSet)
    | (simp only [wp_eq, wo_eq] at *; apply rp_lenSet <;> assumption)
@[simp] theorem wp_intF2 {f : Int → Int → Int} {i j : Int} {h : Sto} {Q : D → Sto → Prop} : wp (intF2 f (.int i) (.int j) h) Q ↔ Q (.int (f i j)) h := by
  first
    | (simp only [wp_eq, wo_eq]; exact rp_intF2)
    | (simp only [wp_eq, wo_eq] at *; apply rp_intF2 <;> assumption)
theorem wp_loopC_inv {w : Wk} {t : Tg} {ts : MT} {me : ME} {ρ : Sl} {n : Nat} {P : Unit → Sto → Prop} (xs : List D) (I : Nat → List D → Sto → Prop) (its : ∀ i acc h, I i acc h → w.item h i = some xs[i]?) (small : ∀ i acc h, I i acc h → acc.length < 16777216)
    (step : ∀ i d acc h, xs[i]? = some d → I i acc h → ∃ ρ1, setTg t d ρ h = some ρ1 ∧ wp (ts ρ1 h) fun b h2 => (b = true → wp (me ρ1 h2) fun y h3 => lstAt h3 n = some acc ∧ I (i + 1) (acc ++ [y]) (h3.set n (.lst (acc ++ [y])))) ∧ (b = false → I (i + 1) acc h2))
    (last : ∀ acc h, I xs.length acc h → P () h) : ∀ (m i : Nat) (acc : List D) (h : Sto), xs.length ≤ i + m → i ≤ xs.length → I i acc h → wp (loopC w t ts me n ρ m i h) P := by
  first
    | (simp only [wp_eq, wo_eq]; exact rp_loopC_inv)
    | (simp only [wp_eq, wo_eq] at *; apply rp_loopC_inv <;> assumption)
theorem wo_step {m k : MS} {ρ : Sl} {h : Sto} {Pn T : Sl → Sto → Prop} {Q : D → Sto → Prop} (x : ∀ R : Sl → Sto → Prop, (∀ ρ1 h1, T ρ1 h1 → R ρ1 h1) → wo (m ρ h) R Q) (y : ∀ ρ1 h1, T ρ1 h1 → wo (k ρ1 h1) Pn Q) : wo (mSeqS m k ρ h) Pn Q := by
  first
    | (simp only [wp_eq, wo_eq]; exact ro_step)
    | (simp only [wp_eq, wo_eq] at *; apply ro_step <;> assumption)
@[simp] theorem wp_neg {m : ME} {ρ : Sl} {h : Sto} {Q : D → Sto → Prop} : wp (mNeg m ρ h) Q ↔ wp (m ρ h) fun d h1 => wp (negD d h1) Q := by
  first
    | (simp only [wp_eq, wo_eq]; exact rp_neg)
    | (simp only [wp_eq, wo_eq] at *; apply rp_neg <;> assumption)
@[simp] theorem wp_negD {i : Int} {h : Sto} {Q : D → Sto → Prop} : wp (negD (.int i) h) Q ↔ Q (.int (-i)) h := by
  first
    | (simp only [wp_eq, wo_eq]; exact rp_negD)
    | (simp only [wp_eq, wo_eq] at *; apply rp_negD <;> assumption)
theorem wp_app {mo me : ME} {ρ : Sl} {h : Sto} {Q : D → Sto → Prop} (x : wp (mo ρ h) fun o h1 => ∃ n, o = .ref n ∧ (∃ ys, lstAt h1 n = some ys) ∧ wp (me ρ h1) fun y h2 => ∃ xs, lstAt h2 n = some xs ∧ xs.length < 16777216 ∧ Q .non (h2.set n (.lst (xs ++ [y])))) : wp (mApp mo me ρ h) Q := by
  first
    | (simp only [wp_eq, wo_eq]; exact rp_app)
    | (simp only [wp_eq, wo_eq] at *; apply rp_app <;> assumption)
end Ml
/-! The mill, part 17: own exceptions without a field; isinstance of what a suite holds; suites that set a list. -/
namespace PySem
namespace Mx
open PySem.W PySem.Calls PyProof.Rows
section
variable {K : Frag} {x t c : Value} {H : Heap → Prop}
/-- isinstance says True as soon as the type says so -/
theorem ans_yes (ty : ∀ (M : Model) (h : Heap), K.In h → H h → Looks M h (typeOf x) t) (e : kitOne K t c = some true) : Answers (fun s => K.In s.heap ∧ H s.heap) x c true := by
  intro dep tk prog w A R s hs
  obtain ⟨h0, g, d, tt, os⟩ := s
  obtain ⟨⟨X, p⟩, fin⟩ := hs
  have typ := ty (model prog w) h0 X p
  unfold kitOne at e
  unfold Builtin.«isinstance.nested»
  refine wpAny_bind (typ.at ?_)
  by_cases same : (t == c) = true
  · rw [if_pos same]
    first
      | exact wpAny_bind (wpAny_rule (fin tt))
      | exact wpAny_bind (wpAny_rule (wpAny_pure (fin tt)))
  · rw [if_neg same] at e ⊢
    obtain ⟨meta_, isT, sub⟩ := kit_cls (M := model prog w) X e
    have inst : Looks (model prog w) h0 (isInstance x c) true := typ.andThen sub
    refine wpAny_bind (meta_.at ?_)
    rw [if_pos (by decide)]
    k_delta "plainIsInstance"
    refine wpAny_bind (wpAny_bind (isT.at ?_))
    simp only [Bool.not_true, Bool.false_eq_true, if_false]
    refine wpAny_bind (inst.at ?_)
    first
      | exact wpAny_pure (wpAny_pure (fin tt))
      | (simp only [if_true]; first | exact wpAny_pure (wpAny_pure (fin tt)) | exact wpAny_pure (fin tt) | exact wpAny_bind (wpAny_pure (wpAny_pure (fin tt))))
theorem is_yes {prog : Program} {w : World} {A : Around} {E : Value → Shared → Prop} {s : Shared} {Q : Value → Shared → Prop} (ty : ∀ (M : Model) (h : Heap), K.In h → H h → Looks M h (typeOf x) t) (e : kitOne K t c = some true) (X : K.In s.heap) (p : H s.heap)
    (hx : x ≠ .builtin "__main__.__loader__#opaque") (h : ∀ tk, Q (.bool true) { s with toks := tk }) : wpAny (model prog w) A (call (.builtin "isinstance") [x, c]) Q E s :=
  call_isinstance (S := fun _ R s => (K.In s.heap ∧ H s.heap) ∧ ∀ tk, R (.ok (.ret (.bool true))) { s with toks := tk }) (fun prog w A R s hs => isinstance_outer (ans_yes ty e 0 _ prog w A R s hs) hx) ⟨⟨X, p⟩, h⟩
end
end Mx
end PySem
namespace Ml
open PySem PySem.Spec L2
section
variable {X : Cx} {C : Addr} {B newId initId : String} {bmB : List Value} {e : Expr} {es : List Expr} {p pos pos2 : Pos}
/-- a made exception without a dict is let go -/
theorem made_none {pins : List (Addr × Obj)} {σ : L2.St} {H1 H2 : Hp} {Q : XK} {hp hp2 h2 : Heap} {g1 g2 : Array GenState} {d1 d2 : Drawn} {t1 t2 : Nat} {os1 os2 : OsState} {a : Addr} (T : Raises X (.ref C)) (I1 : L2.Inv X pins σ H1 ⟨hp, g1, d1, t1, os1⟩)
    (far : hp.objs.size ≤ a) (kp : ∀ b o, hp.get? b = some o → hp2.get? b = some o) (un : Un (frs X.stack) [] (upd H1 a (exo a C none)) H2 hp2 h2) (hok : HOk X.prog X.w H2 h2) (ho : os2 = os1) (bare : PyProof.Rows.AllBare g2)
    (ea : H2 a = some (exo a C none)) (q : Q (.ref C) none (del H2 a)) : MkP X pins σ Q (.ref a) ⟨h2, g2, d2, t2, os2⟩ := by
  obtain ⟨t0, obj⟩ := exo_at hok ea
  have n1 : H1 a = none := I1.hok.fresh far
  obtain ⟨G, same, gone⟩ := restrict h2 fun b => decide (b ≠ a)
  have gk : ∀ b, b ≠ a → G.get? b = h2.get? b := fun b hb => same b (decide_eq_true hb)
  have ga : G.get? a = none := gone a (by simp)
  have off : ∀ {b : Addr} {o : Obj}, hp.get? b = some o → b ≠ a := fun z => Nat.ne_of_lt (Nat.lt_of_lt_of_le (Heap.lt_size z) far)
  have up : ∀ {b : Addr}, b ≠ a → H1 b = none → upd H1 a (exo a C none) b = none := fun hb n => by rw [upd_ne hb]; exact n
  have U : Un (frs X.stack) [] H1 (del H2 a) hp G :=
    { keep := fun b o z n hf hx => by rw [gk b (off z)]; exact un.keep b o (kp b o z) (up (off z) n) hf hx
      slot := fun b o z n hf hx => by rw [gk b (off z)]; exact un.slot b o (kp b o z) (up (off z) n) hf hx
      free := fun b o z n hx => by rw [del_ne (off z)]; exact un.free b o (kp b o z) (up (off z) n) hx
      there := fun b o z hx => by rw [gk b (off z)]; exact un.there b o (kp b o z) hx
      tups := fun b xs z => by rw [del_ne (ne_of_none z n1)]; exact un.tups b xs (by rw [upd_ne (ne_of_none z n1)]; exact z)
      frzs := fun b o v z => by rw [del_ne (ne_of_none z n1)]; exact un.frzs b o v (by rw [upd_ne (ne_of_none z n1)]; exact z)
      tbls := fun b ps z => by rw [del_ne (ne_of_none z n1)]; exact un.tbls b ps (by rw [upd_ne (ne_of_none z n1)]; exact z) }
  have ok3 : HOk X.prog X.w (del H2 a) G := fun b o z => by
    have hba : b ≠ a := fun e => by rw [e, del_same] at z; cases z
    rw [del_ne hba] at z
    have noa : ∀ {c : Addr}, H2 c = some (.own b) → c ≠ a := fun hc => at_ne ea hc exo_own
    exact (hok b o z).stay (fun c v hc y => by
        have hca : c ≠ a := hc.elim (fun z => z ▸ hba) noa
        rw [gk c hca]; exact y)
      (fun c hc => by rw [del_ne (noa hc)]; exact hc) (fun c xs hc => by rw [del_ne (at_ne ea hc exo_tup)]; exact hc)
  have J : L2.Inv X pins σ (del H2 a) ⟨G, g2, d2, t2, os2⟩ := I1.call' (ch := []) ho U ok3 bare (fun b z => absurd z (by simp))
  refine ⟨a, _, _, ⟨G, g2, d2, t2, os2⟩, _, .ref C, none, rfl, J, fun b o z => ?_, ga, obj, ⟨rfl, rfl⟩, rfl, rfl, del_same, rfl, bare, T, q⟩
  by_cases hba : b = a
  · have z' : G.get? b = some o := z
    rw [hba, ga] at z'; cases z'
  · exact (gk b hba).symm.trans z
/-- __init__(self): B.__init__(self, 'text') -/
def spIni0 (C : Addr) : Sp := fun vs H Q _ => ∃ a : Addr, vs = [.ref a] ∧ H a = some (exo a C none) ∧ Q .non H
theorem pure_ini0 {K : PySem.W.Frag} {t0 : Str} {N : List Str} {vs : List V} {H : Hp} {Q : VK} {E : XK} (hN : N.length = 1) (h : spIni0 C vs H Q E) :
    tDrop (tBi K C (tCons (tVar 0) (tCons (tC (.str t0)) tNil))) { nx := fun _ H' => Q .non H', rt := Q } (L2.start N vs) H := by
  obtain ⟨a, rfl, ha, k⟩ := h
  have e0 : (L2.start N [V.ref a])[0]? = some (some (V.ref a)) := rfl
  exact ⟨_, e0, a, _, rfl, by show 1 ≤ 1000; decide, ha, k⟩
/-- raise x() -/
def mRaise0 (x : Str) : MS := fun ρ h => .ex ⟨x, []⟩ ρ h
theorem s_raise0 {W : WX} {x : Str} {fI : Addr} {k : Nat} {fd : FuncData} {ps : List Str} (hc : X.calm = true) (F : ExcBaseFacts B newId initId bmB) (T : XC X.K C newId bmB) (iC : PySem.W.findIn X.K (.ref C) "__init__" = some (some (.ref fI))) (tI : PySem.W.typeIn X.K (.ref fI) = some (.type "function"))
    (F1 : FnOk X.prog X.w X.K X.mg X.base (L2.CX X.prog X.w) k fI fd ps (spIni0 C)) (hr : Room (k + 1) X.A) (hb : Binds X.K fd ps []) (hm : X.mg x = some (.ref C)) (tk : Takes X W) (hg : Gl X x := by rfl) (hdb : (x == ("__debug__" : Str)) = false := by decide) :
    PS X (.Raise (some (.Call (.Name x p) [] [] pos)) none pos2) (tSt X W (mRaise0 x)) := by
  have mk : PMk X (.Call (.Name x p) [] [] pos) (fun σ H Q => Q (.ref C) none H) := by
    intro pins s σ H Q I q
    refine wpAny_Call_Name_kw (ld_glob I hg hm ?_ hdb)
    refine PySem.W.callWith_K0 I.kIn T.kC ?_
    obtain ⟨_, _, _, _, _, _, _, _, _, _, _, _, _, _, _, _, hC, hT⟩ := PySem.W.excInit_of I.kIn T.ini
    obtain ⟨hp, g, dr, tk, os⟩ := s
    have up1 : hp.objs.size ≤ hp.objs.size + 1 := Nat.le_succ _
    have old : ∀ b o, hp.get? b = some o → ((hp.push (PySem.W.kdv_tup [])).push (PySem.HandSPX.excO C hp.objs.size)).get? b = some o := fun b o e => Heap.get?_push_of_some _ (Heap.get?_push_of_some _ e)
    have new : ((hp.push (PySem.W.kdv_tup [])).push (PySem.HandSPX.excO C hp.objs.size)).get? (hp.objs.size + 1) = some (PySem.HandSPX.excO C hp.objs.size) := by heap_get
    have I2 := I.laid (t' := tk) (a := hp.objs.size + 1) (o := exo (hp.objs.size + 1) C none) (h' := (hp.push (PySem.W.kdv_tup [])).push (PySem.HandSPX.excO C hp.objs.size)) old up1 (exo_ok new)
    have na : H (hp.objs.size + 1) = none := I.hok.fresh up1
    have q2 : spIni0 C [.ref (hp.objs.size + 1)] (upd H (hp.objs.size + 1) (exo (hp.objs.size + 1) C none)) (fun v H2 => v = .non ∧ H2 (hp.objs.size + 1) = some (exo (hp.objs.size + 1) C none) ∧ Q (.ref C) none (del H2 (hp.objs.size + 1))) (fun _ _ _ => False) := by
      refine ⟨_, rfl, upd_same, rfl, upd_same, ?_⟩
      have e : del (upd H (hp.objs.size + 1) (exo (hp.objs.size + 1) C none)) (hp.objs.size + 1) = H := by
        funext b
        by_cases hb : b = hp.objs.size + 1
        · rw [hb, del_same, na]
        · rw [del_ne hb, upd_ne hb]
      rw [e]; exact q
    have r2 : Vals [V.ref (hp.objs.size + 1)] [Value.ref (hp.objs.size + 1)] := .cons rfl .nil
    have hl : ([Value.ref (hp.objs.size + 1)] ++ []).length = ps.length := by rw [List.append_nil, ← r2.length]; exact F1.len _ _ _ _ q2
    refine wpAny_call (PySem.HandSPX.call_own F hT hC (PySem.W.looks_findIn I.kIn iC) (fun self => PySem.W.bind_fn I.kIn self tI) (Nat.zero_le _)
      (codeAny_mono (F1.run _ X.stack _ _ ⟨[Value.ref (hp.objs.size + 1)], []⟩ [Value.ref (hp.objs.size + 1)] _ _ (fun _ _ _ => False) (hr.make C [] []) (I2.env0.make C [] []) (by simpa using hb _ [Value.ref (hp.objs.size + 1)] I2.kIn hl) r2 q2) fun r s' hq' => ?_))
    rcases r with er | fl
    · exact (passL (X := X)) pins σ _ _ er s' I2 hq'
    · cases fl with
      | ret u =>
        obtain ⟨v, H2, os2, bare2, un2, hok2, rv, ev, ea, q3⟩ := hq'
        subst ev
        obtain ⟨h2, g2, d2, t2, os'⟩ := s'
        exact ⟨rv, made_none (raises_own T.exC T.tyC) I up1 old un2 hok2 os2 bare2 ea q3⟩
      | next => exact False.elim hq'
      | brk => exact False.elim hq'
      | cont => exact False.elim hq'
  refine ps_imp (ps_raise hc tk mk) fun Dn σ H q => ?_
  obtain ⟨α, ρ, h, R, E, o⟩ := q
  exact o α σ H _ none .refl R E ⟨C, hm, rfl, rfl⟩
end
/-! ### isinstance(err, B), err what the suite holds -/
def rIsY (a : Addr) (T : String) : List V → Hp → VK → Prop := fun vs H Q => vs = [.ref a, .ty T] ∧ Q (.bl true) H
theorem call_isY {X : Cx} {a C : Addr} {oe : Obj} {cls : Value} {d : Option Addr} {pn : List (Addr × Obj)} {T : String} (hk : PySem.W.kitOne X.K cls (.type T) = some true) (hz : Zc cls d oe) : CallR (X.suite a ((a, oe) :: pn)) (.builtin "isinstance") (rIsY a T) := by
  intro pins s σ H xs us Q I r h
  obtain ⟨rfl, q⟩ := h
  cases r with
  | cons rx rr =>
    cases rr with
    | cons rt rr =>
      cases rr
      cases (show _ = Value.ref a from rx)
      cases (show _ = Value.type T from rt)
      obtain ⟨at_, _⟩ := I.pin (a, oe) (List.mem_append.mpr (.inl List.mem_cons_self))
      exact PySem.Mx.is_yes (H := fun h => h.get? a = some oe) (t := cls) (fun M h _ e A Q E s k q => wpAny_typeOf_ref (k _ _ e) (by rw [hz.1]; exact q)) hk I.kIn at_ (fun z => nomatch z) fun tk => ⟨.bl true, H, I.kept (t' := tk) fun _ _ z => z, rfl, q⟩
/-- what a suite's list shows of the error -/
inductive SI where
  | s (t : Str) | f (n : Str) | y
def siD (e : XD) : SI → Option D
  | .s t => some (.str t)
  | .f n => e.fs.lookup n
  | .y => some (.bl true)
def siAll (e : XD) : List SI → Option (List D)
  | [] => some []
  | i :: r => match siD e i, siAll e r with
    | some d, some ds => some (d :: ds)
    | _, _ => none
/-- x = [..] -/
def suSet (i : Nat) (l : List SI) : XD → MS := fun e ρ h => match siAll e l with
  | some ds => if ds.length ≤ 16777216 then .nx (ρ.set i (some (.ref h.length))) (h ++ [.lst ds]) else .no
  | none => .no
/-- return [..] -/
def suRt (l : List SI) : XD → MS := fun e _ h => match siAll e l with
  | some ds => if ds.length ≤ 16777216 then .rt (.ref h.length) (h ++ [.lst ds]) else .no
  | none => .no
/-- the list's items: nothing is made, each stands for what siD says -/
structure SIs (X' : Cx) (K : PySem.W.Frag) (mg : Str → Option Value) (x : Str) (i : Nat) (a : Addr) (cls : Value) (d : Option Addr) (es : List Expr) (l : List SI) : Prop where
  run : ∃ ta : TA, PA X' es ta ∧ ∀ α H σ (e : XD) ds (Q : List V → Hp → Prop), RepX K mg α H e cls d → e.cls = x → σ[i]? = some (some (.ref a)) → siAll e l = some ds → (∀ vs, Reps K α H ds vs → Q vs H) → ta σ H Q
section
variable {X : Cx} {W : WX} {x n : Str} {i : Nat} {a C : Addr} {oe : Obj} {cls : Value} {d : Option Addr} {pn : List (Addr × Obj)} {es : List Expr} {l : List SI} {pos p1 p2 p3 : Pos}
theorem si_nil : SIs (X.suite a ((a, oe) :: pn)) X.K X.mg x i a cls d [] [] := ⟨_, pa_nil, fun α H σ e ds Q _ _ _ es k => by cases es; exact k [] rfl⟩
theorem si_s {t : Str} {j : Nat} (h : SIs (X.suite a ((a, oe) :: pn)) X.K X.mg x i a cls d es l) (hs : starEach (.Constant (.str t) j pos :: es) (X.suite a ((a, oe) :: pn)).env = (false, eval (.Constant (.str t) j pos) (X.suite a ((a, oe) :: pn)).env) :: starEach es (X.suite a ((a, oe) :: pn)).env := by rfl) :
    SIs (X.suite a ((a, oe) :: pn)) X.K X.mg x i a cls d (.Constant (.str t) j pos :: es) (.s t :: l) := by
  obtain ⟨ta, hp, hq⟩ := h.run
  refine ⟨_, pa_cons pe_str hp hs, fun α H σ e ds Q rx hc hi ed k => ?_⟩
  unfold siAll at ed
  cases el : siAll e l with
  | none => rw [el] at ed; cases ed
  | some ds' =>
    rw [el] at ed
    cases ed
    exact hq α H σ e ds' _ rx hc hi el fun vs rs => k _ ⟨.str t, vs, rfl, rfl, rs⟩
theorem si_f {f : Str} (T : XfC X.K C) (no : PySem.W.findIn X.K (.ref C) f = some none) (hm : X.mg x = some (.ref C)) (hz : Zc cls d oe) (hf : ∃ vs, oe.data = .fields vs) (hi : X.N[i]? = some n) (hv : Vis X.env.scope n) (h : SIs (X.suite a ((a, oe) :: pn)) X.K X.mg x i a cls d es l)
    (hd : (n == ("__debug__" : Str)) = false := by decide) (hcd : (n == ("__classdict__" : Str)) = false := by decide) (hb : attributeBase (.Name n p1) f (X.suite a ((a, oe) :: pn)).env (eval (.Name n p1) (X.suite a ((a, oe) :: pn)).env) = eval (.Name n p1) (X.suite a ((a, oe) :: pn)).env := by rfl)
    (hs : starEach (.Attribute (.Name n p1) f p2 :: es) (X.suite a ((a, oe) :: pn)).env = (false, eval (.Attribute (.Name n p1) f p2) (X.suite a ((a, oe) :: pn)).env) :: starEach es (X.suite a ((a, oe) :: pn)).env := by rfl) :
    SIs (X.suite a ((a, oe) :: pn)) X.K X.mg x i a cls d (.Attribute (.Name n p1) f p2 :: es) (.f f :: l) := by
  obtain ⟨ta, hp, hq⟩ := h.run
  refine ⟨_, pa_cons (pe_xf T no hz hf (pe_var (X := X.suite a ((a, oe) :: pn)) hi hv hd hcd) hb) hp hs, fun α H σ e ds Q rx hc hi ed k => ?_⟩
  obtain ⟨C', m1, m2, m3⟩ := id rx
  rw [hc, hm] at m1
  cases m1
  unfold siAll at ed
  cases el : siAll e l with
  | none => rw [el] at ed; cases hh : siD e (.f f) <;> rw [hh] at ed <;> cases ed
  | some ds' =>
    rw [el] at ed
    cases hl : e.fs.lookup f with
    | none => rw [show siD e (.f f) = none from hl] at ed; cases ed
    | some y =>
      rw [show siD e (.f f) = some y from hl] at ed
      cases ed
      cases d with
      | none =>
        have m3 : e.fs = [] := m3
        rw [m3] at hl; cases hl
      | some dd =>
        obtain ⟨fs, e1, e2, e3⟩ := m3
        obtain ⟨v, lv, rv⟩ := look_rep e2 e3 hl
        exact ⟨.ref a, hi, rfl, m2, dd, fs, v, rfl, e1, lv, hq α H σ e ds' _ rx hc hi el fun vs rs => k _ ⟨v, vs, rfl, rv, rs⟩⟩
theorem si_y {T : String} {b : Str} (hk : PySem.W.kitOne X.K (.ref C) (.type T) = some true) (hm : X.mg x = some (.ref C)) (hz : Zc cls d oe) (hi : X.N[i]? = some n) (hv : Vis X.env.scope n) (gi : Gl X "isinstance") (mi : X.mg "isinstance" = none) (gb : Gl X b) (mb : X.mg b = none) (bo : bootBuiltins b = some (.type T)) (hnb : b ≠ "__name__")
    (hdb : (b == ("__debug__" : Str)) = false) (h : SIs (X.suite a ((a, oe) :: pn)) X.K X.mg x i a cls d es l) (hcl : cls = .ref C) (hd : (n == ("__debug__" : Str)) = false := by decide) (hcd : (n == ("__classdict__" : Str)) = false := by decide)
    (h1 : starEach [.Name n p1, .Name b p2] (X.suite a ((a, oe) :: pn)).env = (false, eval (.Name n p1) (X.suite a ((a, oe) :: pn)).env) :: starEach [.Name b p2] (X.suite a ((a, oe) :: pn)).env := by rfl)
    (h2 : starEach [.Name b p2] (X.suite a ((a, oe) :: pn)).env = (false, eval (.Name b p2) (X.suite a ((a, oe) :: pn)).env) :: starEach [] (X.suite a ((a, oe) :: pn)).env := by rfl) (h3 : (backTo pos (starEach [.Name b p2] (X.suite a ((a, oe) :: pn)).env)).any (·.1) = false := by rfl)
    (hs : starEach (.Call (.Name "isinstance" p3) [.Name n p1, .Name b p2] [] pos :: es) (X.suite a ((a, oe) :: pn)).env = (false, eval (.Call (.Name "isinstance" p3) [.Name n p1, .Name b p2] [] pos) (X.suite a ((a, oe) :: pn)).env) :: starEach es (X.suite a ((a, oe) :: pn)).env := by rfl) :
    SIs (X.suite a ((a, oe) :: pn)) X.K X.mg x i a cls d (.Call (.Name "isinstance" p3) [.Name n p1, .Name b p2] [] pos :: es) (.y :: l) := by
  obtain ⟨ta, hp, hq⟩ := h.run
  subst hcl
  refine ⟨_, pa_cons (pe_callB (X := X.suite a ((a, oe) :: pn)) (call_isY (C := C) (T := T) hk hz) gi mi PyProof.Rows.boot_isinstance (pa_cons (pe_var (X := X.suite a ((a, oe) :: pn)) hi hv hd hcd) (pa_cons (pe_bltn (X := X.suite a ((a, oe) :: pn)) (v := .ty T) gb mb bo rfl hnb hdb) pa_nil h2) h1) (by decide) (by decide) h1 h3) hp hs, fun α H σ e ds Q rx hc hi ed k => ?_⟩
  unfold siAll at ed
  cases el : siAll e l with
  | none => rw [el] at ed; cases ed
  | some ds' =>
    rw [el] at ed
    cases ed
    exact ⟨.ref a, hi, rfl, hq α H σ e ds' _ rx hc hi el fun vs rs => k _ ⟨.bl true, vs, rfl, rfl, rs⟩⟩
theorem su_rt {b₀ : Stmt} (h : SIs (X.suite a ((a, oe) :: pn)) X.K X.mg x i a cls d es l) : PSs (X.suite a ((a, oe) :: pn)) [.Return (some (.List es p1)) pos] (tSu X.K X.mg x i (suRt l) a cls d) := by
  obtain ⟨ta, hp, hq⟩ := h.run
  refine pss_imp (pss_one (ps_ret (pe_lst hp))) fun Dn σ H q => ?_
  obtain ⟨α, ρ, h, e, R, E, hs, rx, hc, o⟩ := q
  unfold suRt at o
  cases el : siAll e l with
  | none => rw [el] at o; exact o.elim
  | some ds =>
    rw [el] at o
    dsimp only at o
    by_cases hz : ds.length ≤ 16777216
    · rw [if_pos hz] at o
      refine hq α H σ e ds _ rx hc hs el fun vs rs => ⟨by rw [sizeLine_eq, Reps.length rs]; exact hz, fun p hp => ?_⟩
      exact o _ _ _ (Ext.new hp [p]) (R.newLst hp rs) (fresh_ref R)
    · rw [if_neg hz] at o; exact o.elim
theorem su_set (k : Nat) {y : Str} {pos' : Pos} (h : SIs (X.suite a ((a, oe) :: pn)) X.K X.mg x i a cls d es l) (hN : X.N.Nodup) (hk : X.N[k]? = some y) (hx : Loc X.env.scope y) (hfn : X.env.scope.names.lookup y = some .local) (hs : swapsWith (.List es p1) (some (.Name y pos')) pos.line X.env = pure false := by rfl) :
    PSs (X.suite a ((a, oe) :: pn)) [.Assign [.Name y pos'] (.List es p1) pos] (tSu X.K X.mg x i (suSet k l) a cls d) := by
  obtain ⟨ta, hp, hq⟩ := h.run
  refine pss_imp (pss_one (ps_set (X := X.suite a ((a, oe) :: pn)) (i := k) hN hk hx (pe_lst hp) hs (hf := .inr hfn))) fun Dn σ H q => ?_
  obtain ⟨α, ρ, h, e, R, E, hs, rx, hc, o⟩ := q
  unfold suSet at o
  cases el : siAll e l with
  | none => rw [el] at o; exact o.elim
  | some ds =>
    rw [el] at o
    dsimp only at o
    by_cases hz : ds.length ≤ 16777216
    · rw [if_pos hz] at o
      refine hq α H σ e ds _ rx hc hs el fun vs rs => ⟨by rw [sizeLine_eq, Reps.length rs]; exact hz, fun p hp => ?_⟩
      have ex : Ext X.K α H (α ++ [p]) (upd H p (.lst vs)) := Ext.new hp [p]
      exact o _ _ _ ex (R.newLst hp rs) ((E.ext ex).set k (fresh_ref R))
    · rw [if_neg hz] at o; exact o.elim
end
end Ml
/-! The mill, part 18: try with several clauses «except C as n». -/
namespace Ml
open PySem PySem.Spec L2
/-- behind a suite the error's name is gone -/
def offEnds (i : Nat) (D : Ends) : Ends := { nx := fun σ H => D.nx (σ.set i none) H, rt := D.rt, bk := fun σ H => D.bk (σ.set i none) H, ct := fun σ H => D.ct (σ.set i none) H }
abbrev Clause := Value × Nat × (Addr → Value → Option Addr → TS)
def wCl (K : PySem.W.Frag) (Wout : WX) (D : Ends) : List Clause → WX
  | [] => Wout
  | (c, i, ts) :: r => fun cls d σ H => ∃ b, PySem.W.exmOne K cls c = some b ∧ (b = true → ∀ a, H a = none → ts a cls d (offEnds i D) (σ.set i (some (.ref a))) H) ∧ (b = false → wCl K Wout D r cls d σ H)
inductive ClsOk (X : Cx) : List ExceptHandler → List Clause → Prop
  | nil : ClsOk X [] []
  | cons {x n : Str} {c : Value} {i : Nat} {ts : Addr → Value → Option Addr → TS} {s0 : Stmt} {ss : List Stmt} {np hp : Pos} {hds : List ExceptHandler} {l : List Clause} (nm : Names X x c) (slot : X.N[i]? = some n) (loc : X.env.kindOf n = some .local)
      (su : ∀ (a : Addr) (oe : Obj) (cls : Value) (d : Option Addr) (pn : List (Addr × Obj)), Zc cls d oe → (∃ vs, oe.data = .fields vs) → PSs (X.suite a ((a, oe) :: pn)) (s0 :: ss) (ts a cls d)) (rest : ClsOk X hds l) :
      ClsOk X (.ExceptHandler (some (.Name x np)) (some n) (s0 :: ss) hp :: hds) ((c, i, ts) :: l)
section
variable {X : Cx} {body : List Stmt} {hd0 : ExceptHandler} {hds : List ExceptHandler} {l : List Clause} {pos : Pos} {tb : WX → TS} {Wout : WX}
theorem ps_try_cl (top : X.stack = X.env :: X.outer) (frm : X.env.frame = some X.env.locals) (nd : X.N.Nodup) (tk : Takes X Wout)
    (bd : ∀ (W : WX) (pn : List (Addr × Obj)) (xe : Value → Shared → Prop), Takes (X.tr pn xe) W → PassesOwn (model X.prog X.w) X.A X.env xe → PSs (X.tr pn xe) body (tb W)) (cl : ClsOk X (hd0 :: hds) l) :
    PS X (.Try body (hd0 :: hds) [] [] pos) (fun D σ H => tb (wCl X.K Wout D l) D σ H) := by
  refine ⟨fun pins s σ H D I run => wpAny_Try_except ?_⟩
  have fine := I.ok
  have stk : X.A.frames = some (X.env :: X.outer) := by rw [fine.frames, top]
  let catch_ : Value → Shared → Prop := fun e s1 => wpAny (model X.prog X.w) X.A (noteFrame e X.env) (fun _ s2 => wpAny (model X.prog X.w) X.A (setFlight e none) (fun _ s3 => wpAny (model X.prog X.w) X.A (handleBy e X.env (hd0 :: hds)) (SP X pins D) X.xe s3) X.xe s2) X.xe s1
  have taken : Takes (X.tr (X.pn ++ pins) catch_) (wCl X.K Wout D l) := fun u s' out => by
    obtain ⟨a, G, sI, pins', σ', H', cls, d, rfl, J', bare, up, sky, na, os, ag, w⟩ := out
    have J : L2.Inv X pins σ' H' sI := J'.ofTry fine
    have sky2 : Sky G (X.env :: X.outer) a (Zc cls d) X.env.locals s'.heap := by rw [← top]; exact sky
    show wpAny (model X.prog X.w) X.A (noteFrame (.ref a) X.env) _ _ _
    refine Sky.land Zc.steady stk frm sky2 fun g3 fly3 more3 => ?_
    have J3 : L2.Inv X pins σ' H' { s' with heap := g3 } := J.landed bare fly3.1 (up.trans more3) os ag
    obtain ⟨o3, v3, at3, z3, f3⟩ := fly3.there
    have alien : a ∉ frs (X.env :: X.outer) := fun hm => by
      obtain ⟨_, o', e', nf⟩ := fly3.2.2.1.mem hm
      rw [at3] at e'; cases e'
      exact nf _ f3
    have nL : a ≠ X.env.locals := fun z => alien (List.mem_filterMap.mpr ⟨X.env, List.mem_cons_self, by rw [frm, z]⟩)
    have nF : a ∉ X.fs := fun hm => by
      obtain ⟨e, he, q⟩ := List.mem_filterMap.mp hm
      exact alien (List.mem_filterMap.mpr ⟨e, List.mem_cons_of_mem _ he, q⟩)
    have S3 := J3.suite at3 f3 na nL nF
    have walk : ∀ {hs' : List ExceptHandler} {l' : List Clause}, ClsOk X hs' l' → wCl X.K Wout D l' cls d σ' H' → wpAny (model X.prog X.w) X.A (handleBy (.ref a) X.env hs') (SP X pins D) X.xe { s' with heap := g3 } := by
      intro hs' l' ok
      induction ok with
      | nil =>
        intro w
        refine wpAny_handleBy_nil ?_
        obtain ⟨_, _, _, oe, vs, T, oT, ts', he, hz, hd, h1, hr⟩ := id fly3
        unfold PySem.passOn
        refine wpAny_bind (wpAny_field he hd h1 ?_)
        rw [if_neg (by simp : ¬ ((Value.ref T == Value.none) = true))]
        have on : wpAny (model X.prog X.w) X.A (setFlight (.ref a) X.env.frame) (fun _ s4 => wpAny (model X.prog X.w) X.A (throw (.ref a) : Sem Flow) (SP X pins D) X.xe s4) X.xe { s' with heap := g3 } := by
          rw [frm]
          exact HandSPX.setFlight_upZ fly3 fun g4 held4 more4 => wpAny_throw (tk _ _ ⟨a, G, sI, pins, σ', H', cls, d, rfl, J, bare, (up.trans more3).trans more4, .inr (.inr (by rw [top]; exact held4)), na, os, ag, w⟩)
        first
          | exact wpAny_bind (wpAny_pure (wpAny_bind on))
          | exact wpAny_bind on
      | @cons x n c i ts s0 ss np hp hds' l' nm slot loc su rest ih =>
        intro w
        obtain ⟨b, is, yes, no⟩ := w
        refine wpAny_handleBy_cons (codeAny_handlers_test ?_) (by intro q; cases q)
        have typ : PySem.W.Looks (model X.prog X.w) g3 (typeOf (.ref a)) cls := fun A Q E s k q => wpAny_typeOf_ref (k _ _ at3) (by rw [z3.1]; exact q)
        have mat := PySem.W.exm_one (M := model X.prog X.w) J3.kIn typ is
        have name : ∀ {Q : Value → Shared → Prop} {E : Value → Shared → Prop}, Q c { s' with heap := g3 } → wpAny (model X.prog X.w) (X.A.mark (some (.ref a))) (eval (.Name x np) X.env) Q E { s' with heap := g3 } := fun q => by
          obtain ⟨hg, dbg, m | ⟨m, v, nn⟩⟩ := nm
          · exact ld_glob (X := X.suite a ((a, o3) :: (X.pn ++ pins))) S3 hg m q dbg
          · exact ld_blt (X := X.suite a ((a, o3) :: (X.pn ++ pins))) S3 hg m v q nn dbg
        refine name (mat.here ?_)
        cases b with
        | false => exact ih (no rfl)
        | true =>
          refine codeAny_handlers_suite_as (HandSPX.lands_againZ fly3 fun g4 fly4 more4 => ?_)
          have J4 : L2.Inv X pins σ' H' { s' with heap := g4 } := J.landed bare fly4.1 ((up.trans more3).trans more4) os ag
          obtain ⟨o4, v4, at4, z4, f4⟩ := fly4.there
          have S4 := J4.suite at4 f4 na nL nF
          refine store_ok (X := X.suite a ((a, o4) :: (X.pn ++ pins))) (v := .ref a) S4 nd slot (.inl loc) rfl (fun s5 S5 => ?_) (.inr loc)
          have out : ∀ {σ6 : L2.St} {H6 : Hp} {s6 : Shared} {Q : Shared → Prop}, L2.Inv (X.suite a ((a, o4) :: (X.pn ++ pins))) [] σ6 H6 s6 → (∀ s7, L2.Inv X pins (σ6.set i none) H6 s7 → Q s7) → wpAny (model X.prog X.w) X.A (do bindName X.env n .none; unbindBehindTheSuite X.env n hp) (fun _ s7 => Q s7) X.xe s6 := fun S6 hq => gone_ok (S6.unsuite fine) nd slot loc hq
          refine wpAny_mono ((su a o4 cls d (X.pn ++ pins) z4 ⟨_, f4⟩).run [] s5 _ H' _ S5 (yes rfl a na)) (fun f s6 fin => ?_) (fun _ _ z => False.elim z)
          cases f with
          | ret u => obtain ⟨v6, σ6, H6, S6, r6, q6⟩ := fin; exact out S6 fun s7 J7 => ⟨_, _, _, J7, r6, q6⟩
          | next => obtain ⟨σ6, H6, S6, q6⟩ := fin; exact out S6 fun s7 J7 => ⟨_, _, J7, q6⟩
          | brk => obtain ⟨σ6, H6, S6, q6⟩ := fin; exact out S6 fun s7 J7 => ⟨_, _, J7, q6⟩
          | cont => obtain ⟨σ6, H6, S6, q6⟩ := fin; exact out S6 fun s7 J7 => ⟨_, _, J7, q6⟩
    exact walk cl w
  refine wpAny_mono ((bd (wCl X.K Wout D l) (X.pn ++ pins) catch_ taken PassesOwn.looking).run [] s σ H D (I.toTry _) run) (fun f s1 fin => ?_) (fun e s1 he => he)
  cases f with
  | ret u => obtain ⟨v, σ', H', J', r, q⟩ := fin; exact ⟨v, σ', H', J'.ofTry fine, r, q⟩
  | next => obtain ⟨σ', H', J', q⟩ := fin; exact wpAny_execs_nil ⟨σ', H', J'.ofTry fine, q⟩
  | brk => obtain ⟨σ', H', J', q⟩ := fin; exact ⟨σ', H', J'.ofTry fine, q⟩
  | cont => obtain ⟨σ', H', J', q⟩ := fin; exact ⟨σ', H', J'.ofTry fine, q⟩
end
end Ml
namespace Ml
open PySem PySem.Spec L2
/-- the clauses: class's name, its slot, what its suite does -/
abbrev MCl := List (Str × Nat × (XD → MS))
def runCl (e : XD) (ρ : Sl) (h : Sto) : MCl → O
  | [] => .no
  | (c, i, su) :: r => if e.cls = c then (if i < ρ.length then unset i (su e (ρ.set i none) h) else .no) else runCl e ρ h r
def mTryN (mb : MS) (l : MCl) : MS := fun ρ h => match mb ρ h with
  | .ex e ρ1 h1 => runCl e ρ1 h1 l
  | o => o
/-- the classes of the clauses, apart from one another -/
inductive ClN (X : Cx) : List Addr → MCl → List ExceptHandler → Prop
  | nil : ClN X [] [] []
  | cons {x n : Str} {C : Addr} {i : Nat} {su : XD → MS} {s0 : Stmt} {ss : List Stmt} {np hp : Pos} {Cs : List Addr} {l : MCl} {hds : List ExceptHandler} (hg : Gl X x) (hdb : (x == ("__debug__" : Str)) = false) (hm : X.mg x = some (.ref C)) (slot : X.N[i]? = some n) (loc : X.env.kindOf n = some .local)
      (hex : PySem.W.exmOne X.K (.ref C) (.ref C) = some true) (apart : ∀ c i' su', (c, i', su') ∈ l → ∃ C', X.mg c = some (.ref C') ∧ PySem.W.exmOne X.K (.ref C') (.ref C) = some false)
      (ok : ∀ (a : Addr) (oe : Obj) (cls : Value) (d : Option Addr) (pn : List (Addr × Obj)), Zc cls d oe → (∃ vs, oe.data = .fields vs) → PSs (X.suite a ((a, oe) :: pn)) (s0 :: ss) (tSu X.K X.mg x i su a cls d)) (rest : ClN X Cs l hds) :
      ClN X (C :: Cs) ((x, i, su) :: l) (.ExceptHandler (some (.Name x np)) (some n) (s0 :: ss) hp :: hds)
def clOf (K : PySem.W.Frag) (mg : Str → Option Value) : List Addr → MCl → List Clause
  | C :: Cs, (x, i, su) :: l => (.ref C, i, tSu K mg x i su) :: clOf K mg Cs l
  | _, _ => []
theorem ClN.ok {X : Cx} {Cs : List Addr} {l : MCl} {hds : List ExceptHandler} (c : ClN X Cs l hds) : ClsOk X hds (clOf X.K X.mg Cs l) := by
  induction c with
  | nil => exact .nil
  | cons hg hdb hm slot loc hex apart ok rest ih => exact .cons ⟨hg, hdb, .inl hm⟩ slot loc ok ih
theorem runCl_ok {X : Cx} {W : WX} {Dn : Ends} {Cs : List Addr} {l : MCl} {hds : List ExceptHandler} (c : ClN X Cs l hds) {α : List Addr} {H : Hp} {e : XD} {ρ : Sl} {h : Sto} {σ : L2.St} {cls : Value} {d : Option Addr} (R : RelH X.K α h H) (E : RelE X.K α H ρ σ) (rx : RepX X.K X.mg α H e cls d)
    (o : OkS X.K X.mg W Dn α H (runCl e ρ h l)) : wCl X.K W Dn (clOf X.K X.mg Cs l) cls d σ H := by
  induction c with
  | nil => exact o.elim
  | @cons x n C i su s0 ss np hp Cs l hds hg hdb hm slot loc hex apart ok rest ih =>
    unfold runCl at o
    by_cases hc : e.cls = x
    · rw [if_pos hc] at o
      by_cases hi : i < ρ.length
      · rw [if_pos hi] at o
        have hcls : cls = .ref C := by
          obtain ⟨C', h1, h2, _⟩ := rx
          rw [hc, hm] at h1
          cases h1
          exact h2
        subst hcls
        exact ⟨true, hex, fun _ a na => ⟨α, ρ.set i none, h, e, R, E.drop i _, List.getElem?_set_self (by rw [← E.len]; exact hi), rx, hc, okS_unset o⟩, fun z => Bool.noConfusion z⟩
      · rw [if_neg hi] at o; exact o.elim
    · rw [if_neg hc] at o
      have key : ∀ (l : MCl), OkS X.K X.mg W Dn α H (runCl e ρ h l) → ∃ i su, (e.cls, i, su) ∈ l := by
        intro l
        induction l with
        | nil => exact fun z => z.elim
        | cons q r ih2 =>
          obtain ⟨c', i', su'⟩ := q
          intro z
          unfold runCl at z
          by_cases q : e.cls = c'
          · exact ⟨i', su', by rw [q]; exact List.mem_cons_self ..⟩
          · rw [if_neg q] at z
            obtain ⟨i2, su2, m⟩ := ih2 z
            exact ⟨i2, su2, List.mem_cons_of_mem _ m⟩
      obtain ⟨i2, su2, m⟩ := key l o
      obtain ⟨C', m1, m2⟩ := apart _ _ _ m
      have hcls : cls = .ref C' := by
        obtain ⟨C2, h1, h2, _⟩ := rx
        rw [m1] at h1
        cases h1
        exact h2
      refine ⟨false, by rw [hcls]; exact m2, fun z => Bool.noConfusion z, fun _ => ih o⟩
theorem s_tryN {X : Cx} {W : WX} {body : List Stmt} {hd0 : ExceptHandler} {hds : List ExceptHandler} {mb : MS} {Cs : List Addr} {l : MCl} {pos : Pos} (hs : X.stack = X.env :: X.outer) (hf : X.env.frame = some X.env.locals) (hN : X.N.Nodup) (tk : Takes X W)
    (hb : ∀ (W' : WX) (pn : List (Addr × Obj)) (xe : Value → Shared → Prop), Takes (X.tr pn xe) W' → PassesOwn (model X.prog X.w) X.A X.env xe → PSs (X.tr pn xe) body (tSt (X.tr pn xe) W' mb)) (c : ClN X Cs l (hd0 :: hds)) :
    PS X (.Try body (hd0 :: hds) [] [] pos) (tSt X W (mTryN mb l)) := by
  refine ps_imp (ps_try_cl (tb := fun W' => tSt X W' mb) (Wout := W) hs hf hN tk hb c.ok) fun Dn σ H q => ?_
  obtain ⟨α, ρ, h, R, E, o⟩ := q
  refine ⟨α, ρ, h, R, E, ?_⟩
  unfold mTryN at o
  cases hq : mb ρ h with
  | nx ρ1 h1 => rw [hq] at o; exact o
  | bk ρ1 h1 => rw [hq] at o; exact o
  | ct ρ1 h1 => rw [hq] at o; exact o
  | rt d h1 => rw [hq] at o; exact o
  | no => rw [hq] at o; exact o
  | ex e ρ1 h1 =>
    rw [hq] at o
    exact fun α' σ' H' cls dd ext R' E' rx => runCl_ok c R' E' rx (OkS.later ext o)
/-- a suite may take its error's class for granted -/
theorem su_cls {X : Cx} {x : Str} {i : Nat} {su : XD → MS} {a C : Addr} {oe : Obj} {cls : Value} {d : Option Addr} {pn : List (Addr × Obj)} {st : Stmt} (hm : X.mg x = some (.ref C)) (h : cls = .ref C → PSs (X.suite a ((a, oe) :: pn)) [st] (tSu X.K X.mg x i su a cls d)) :
    PSs (X.suite a ((a, oe) :: pn)) [st] (tSu X.K X.mg x i su a cls d) := by
  by_cases hc : cls = .ref C
  · exact h hc
  · refine pss_imp (pss_one (ps_never (X := X.suite a ((a, oe) :: pn)) (st := st))) fun Dn σ H q => ?_
    obtain ⟨α, ρ, h, e, R, E, hs, ⟨C', m1, m2, _⟩, hc', o⟩ := q
    rw [hc', hm] at m1
    cases m1
    exact absurd m2 hc
end Ml
namespace Ml
open PySem PySem.Spec L2
/-- x = y = e, plain names -/
def mAsg2 (i j : Nat) (m : ME) : MS := fun ρ h => (m ρ h).into ρ fun d h1 => .nx ((ρ.set i (some d)).set j (some d)) h1
theorem s_asg2 {X : Cx} {W : WX} (i j : Nat) {t1 t2 e : Expr} {m : ME} {pos : Pos} (he : PE X e (tD X W m)) (g1 : PG X t1 (gTg X.K (.one i))) (g2 : PG X t2 (gTg X.K (.one j))) (ha : (assignEach [t1, t2] X.env).map (·.2) = [assign t1 X.env, assign t2 X.env] := by rfl) (hw : swappedStores [t1, t2] e X.env = pure none := by rfl) :
    PS X (.Assign [t1, t2] e pos) (tSt X W (mAsg2 i j m)) :=
  ps_imp (ps_asg2 he g1 g2 ha hw) fun Dn σ H x => tSt.step x fun α1 ρ H1 d h1 v R1 E1 r1 o1 => o1 α1 _ H1 .refl R1 ((E1.set i r1).set j r1)
end Ml
/-! The mill, part 19: calls of one of several functions, [f, g][i](..). -/
namespace Ml
open PySem PySem.Spec L2
section
variable {X : Cx} {W : WX} {pos p1 p2 p3 : Pos} {n k : Nat}
/-- a def's name as a value -/
theorem pe_fnm {x : Str} {f : Addr} (hm : X.mg x = some (.ref f)) (hg : Gl X x := by rfl) (hdb : (x == ("__debug__" : Str)) = false := by decide) : PE X (.Name x pos) (tC (.ref f)) := ⟨fun pins s σ H Q I h => ld_glob I hg hm ⟨.ref f, H, I, rfl, h⟩ hdb⟩
/-- the functions' names, where they stand, what they do -/
inductive Fns (X : Cx) (k n : Nat) : List Expr → List Addr → List (List D → Sto → R D) → Prop
  | nil : Fns X k n [] [] []
  | cons {x : Str} {p : Pos} {f : Addr} {fd : FuncData} {ps : List Str} {g : List D → Sto → R D} {es : List Expr} {fs : List Addr} {gs : List (List D → Sto → R D)} (F : FnOk X.prog X.w X.K X.mg X.base (L2.CX X.prog X.w) k f fd ps (spD X.K X.mg n g)) (hm : X.mg x = some (.ref f)) (hk : PySem.W.keepIn X.K (.ref f) = true) (hb : Binds X.K fd ps [])
      (r : Fns X k n es fs gs) (hg : Gl X x := by rfl) (hdb : (x == ("__debug__" : Str)) = false := by decide) (hs : starEach (.Name x p :: es) X.env = (false, eval (.Name x p) X.env) :: starEach es X.env := by rfl) : Fns X k n (.Name x p :: es) (f :: fs) (g :: gs)
def tFns : List Addr → TA
  | [] => tNil
  | f :: fs => tCons (tC (.ref f)) (tFns fs)
theorem Fns.pa {es : List Expr} {fs : List Addr} {gs : List (List D → Sto → R D)} (h : Fns X k n es fs gs) : PA X es (tFns fs) := by
  induction h with
  | nil => exact pa_nil
  | cons F hm hk hb r hg hdb hs ih => exact pa_cons (pe_fnm hm hg hdb) ih hs
theorem tFns_of : ∀ {fs : List Addr} {σ : L2.St} {H : Hp} {Q : List V → Hp → Prop}, Q (fs.map V.ref) H → tFns fs σ H Q
  | [], _, _, _, q => q
  | f :: fs, σ, H, Q, q => tFns_of (fs := fs) (Q := fun xs H2 => Q (V.ref f :: xs) H2) q
theorem Fns.at {es : List Expr} {fs : List Addr} {gs : List (List D → Sto → R D)} (h : Fns X k n es fs gs) : ∀ {j : Nat} {g : List D → Sto → R D}, gs[j]? = some g → ∃ f fd ps, fs[j]? = some f ∧ FnOk X.prog X.w X.K X.mg X.base (L2.CX X.prog X.w) k f fd ps (spD X.K X.mg n g) ∧ PySem.W.keepIn X.K (.ref f) = true ∧ Binds X.K fd ps [] := by
  induction h with
  | nil => intro j g e; simp at e
  | cons F hm hk hb r hg hdb hs ih =>
    intro j g e
    cases j with
    | zero => simp at e; subst e; exact ⟨_, _, _, rfl, F, hk, hb⟩
    | succ j =>
      obtain ⟨f, fd, ps, e1, z⟩ := ih (by simpa using e)
      exact ⟨f, fd, ps, by simpa using e1, z⟩
theorem Fns.len {es : List Expr} {fs : List Addr} {gs : List (List D → Sto → R D)} (h : Fns X k n es fs gs) : fs.length = gs.length := by
  induction h with
  | nil => rfl
  | cons F hm hk hb r hg hdb hs ih => simp [ih]
/-- an index that makes and changes nothing -/
structure PureIx (X : Cx) (e : Expr) (m : ME) : Prop where
  run : ∃ ti : TE, PE X e ti ∧ ∀ α H σ ρ h i h' (Q : VK), RelH X.K α h H → RelE X.K α H ρ σ → m ρ h = .ok (.int i) h' → Q (.int i) H → ti σ H Q
  same : ∀ ρ h i h', m ρ h = .ok (.int i) h' → h' = h
theorem var_same {i : Nat} {ρ : Sl} {h h' : Sto} {d : D} (e : mVar i ρ h = .ok d h') : h' = h ∧ ρ[i]? = some (some d) := by
  unfold mVar at e
  split at e
  · rename_i d' q; cases e; exact ⟨rfl, q⟩
  · cases e
theorem pure_var (i : Nat) {x : Str} (hN : X.N[i]? = some x := by rfl) (hv : Vis X.env.scope x := by first | exact Or.inl rfl | exact Or.inr (Or.inl rfl) | exact Or.inr (Or.inr rfl)) (hd : (x == ("__debug__" : Str)) = false := by decide) (hcd : (x == ("__classdict__" : Str)) = false := by decide) :
    PureIx X (.Name x pos) (mVar i) where
  run := ⟨_, pe_var hN hv hd hcd, fun α H σ ρ h j h' Q R E e q => by
    obtain ⟨rfl, er⟩ := var_same e
    obtain ⟨v, h1, h2⟩ := E.at' i _ er
    cases (show v = .int j from h2)
    exact ⟨_, h1, q⟩⟩
  same := fun ρ h j h' e => (var_same e).1
theorem pure_sub (i : Nat) (c : Int) {x : Str} {j : Nat} (hN : X.N[i]? = some x := by rfl) (hv : Vis X.env.scope x := by first | exact Or.inl rfl | exact Or.inr (Or.inl rfl) | exact Or.inr (Or.inr rfl)) (hd : (x == ("__debug__" : Str)) = false := by decide) (hcd : (x == ("__classdict__" : Str)) = false := by decide) :
    PureIx X (.BinOp (.Name x p1) .Sub (.Constant (.int c) j p2) pos) (mBin (int2 subF) (mVar i) (mC (.int c))) where
  run := ⟨_, pe_op op_sub (pe_var hN hv hd hcd) pe_int, fun α H σ ρ h k h' Q R E e q => by
    unfold mBin at e
    cases ev : mVar i ρ h with
    | ex _ _ => rw [ev] at e; cases e
    | no => rw [ev] at e; cases e
    | ok d h1 =>
      rw [ev] at e
      obtain ⟨rfl, er⟩ := var_same ev
      obtain ⟨v, h1', h2⟩ := E.at' i _ er
      cases d with
      | int a =>
        cases e
        cases (show v = .int a from h2)
        exact ⟨_, h1', a, c, rfl, rfl, q⟩
      | _ => cases e⟩
  same := fun ρ h k h' e => by
    unfold mBin at e
    cases ev : mVar i ρ h with
    | ex _ _ => rw [ev] at e; cases e
    | no => rw [ev] at e; cases e
    | ok d h1 =>
      rw [ev] at e
      obtain ⟨rfl, er⟩ := var_same ev
      cases d with
      | int a => cases e; rfl
      | _ => cases e
def mPick (n : Nat) (gs : List (List D → Sto → R D)) (m : ME) (k : MA) : ME := fun ρ h => match m ρ h with
  | .ok (.int i) h1 => match atI gs i with
    | some g => (k ρ h1).bind fun ds h2 => if ds.length = n then g ds h2 else .no
    | none => .no
  | _ => .no
theorem d_pick {es : List Expr} {fs : List Addr} {gs : List (List D → Sto → R D)} {ix e : Expr} {as : List Expr} {m : ME} {kk : MA} (F : Fns X k n es fs gs) (few : fs.length ≤ 16777216) (hr : Room k X.A) (tk : Takes X W) (hi : PureIx X ix m) (ha : PA X (e :: as) (tDs X W kk)) (px : PlainIx ix := by intro _ _; rfl)
    (ht : eval (.Call (.Subscript (.List es p1) ix p2) (e :: as) [] pos) X.env = (do callWith pos (← eval (.Subscript (.List es p1) ix p2) X.env) [] (backTo pos (starEach (e :: as) X.env)) (backToKw pos (keywordEach [] X.env))) := by rfl)
    (he : starEach (e :: as) X.env = (false, eval e X.env) :: starEach as X.env := by rfl) (hpl : (backTo pos (starEach as X.env)).any (·.1) = false := by rfl) : PE X (.Call (.Subscript (.List es p1) ix p2) (e :: as) [] pos) (tD X W (mPick n gs m kk)) := by
  refine ⟨fun pins s σ H Q I h => PyProof.Rows.Call_ ?_ ht⟩
  obtain ⟨α, ρ, h0, R, E, o⟩ := h
  unfold mPick at o
  cases em : m ρ h0 with
  | ex _ _ => rw [em] at o; exact o.elim
  | no => rw [em] at o; exact o.elim
  | ok d h1 =>
    rw [em] at o
    cases d with
    | int i =>
      dsimp only at o
      cases hi.same ρ h0 i h1 em
      cases eg : atI gs i with
      | none => rw [eg] at o; exact o.elim
      | some g =>
        rw [eg] at o
        dsimp only at o
        obtain ⟨j, ej, eg2⟩ := Option.bind_eq_some_iff.mp eg
        obtain ⟨f, fd, ps, ef, FF, hk, hb⟩ := F.at eg2
        have ea : atI (fs.map V.ref) i = some (V.ref f) := by
          have e1 : atI fs i = some f := by unfold atI; rw [F.len, ej]; exact ef
          unfold atI at e1 ⊢
          rw [List.length_map]
          obtain ⟨j', q1, q2⟩ := Option.bind_eq_some_iff.mp e1
          rw [q1, Option.bind_some, List.getElem?_map, q2]
          rfl
        obtain ⟨ti, pe, tell⟩ := hi.run
        refine thn ((pe_ix ix_list (pe_lst F.pa) pe px).run pins s σ H (fun y H1 => y = .ref f ∧ tDs X W kk σ H1 fun vs H2 => spD X.K X.mg n g vs H2 Q (WE W σ)) I ?_) fun u s1 ⟨y, H1, I1, ry, ey, q2⟩ => ?_
        · refine tFns_of ⟨by rw [sizeLine_eq, List.length_map]; exact few, fun p hp => ?_⟩
          refine tell α _ σ ρ h0 i h0 _ (R.newTup hp) (E.ext (Ext.newTup hp)) em ?_
          refine ⟨p, fs.map V.ref, i, V.ref f, rfl, rfl, SqL.of upd_same, ea, rfl, α, ρ, h0, R.newTup hp, E.ext (Ext.newTup hp), ?_⟩
          refine OkG.bind (OkG.later (Ext.newTup hp) o) fun α2 H2 ds h2 vs e2 R2 r2 o2 => ?_
          split at o2
          · rename_i hl
            exact ⟨α2, h2, ds, R2, r2, hl, o2.wish fun c d H' h => h⟩
          · exact o2.elim
        · subst ey
          cases (show u = Value.ref f from ry)
          refine PySem.W.callWith_K (h₀ := X.base) I.ok.mod.kin hk (thn (ha.run pos pins s1 σ H1 _ I1 q2) fun us s2 ⟨vs, H2, I2, r, q3⟩ => ⟨I2.kIn, ?_⟩) he hpl
          exact run_fnS (E := WE W) FF hr hb (passAt tk σ) I2 r q3
    | _ => exact o.elim
theorem d_pickT {kt : Nat} {es : List Expr} {fs : List Addr} {gs : List (List D → Sto → R D)} {ix e : Expr} {as : List Expr} {m : ME} {kk : MA} (F : Fns X k n es fs gs) (few : fs.length ≤ 16777216) (hr : Room k X.A) (tk : Takes X W) (hi : PureIx X ix m) (ha : PA X (e :: as) (tDs X W kk)) (px : PlainIx ix := by intro _ _; rfl)
    (ht : eval (.Call (.Subscript (.Tuple es kt p1) ix p2) (e :: as) [] pos) X.env = (do callWith pos (← eval (.Subscript (.Tuple es kt p1) ix p2) X.env) [] (backTo pos (starEach (e :: as) X.env)) (backToKw pos (keywordEach [] X.env))) := by rfl)
    (he : starEach (e :: as) X.env = (false, eval e X.env) :: starEach as X.env := by rfl) (hpl : (backTo pos (starEach as X.env)).any (·.1) = false := by rfl) : PE X (.Call (.Subscript (.Tuple es kt p1) ix p2) (e :: as) [] pos) (tD X W (mPick n gs m kk)) := by
  refine ⟨fun pins s σ H Q I h => PyProof.Rows.Call_ ?_ ht⟩
  obtain ⟨α, ρ, h0, R, E, o⟩ := h
  unfold mPick at o
  cases em : m ρ h0 with
  | ex _ _ => rw [em] at o; exact o.elim
  | no => rw [em] at o; exact o.elim
  | ok d h1 =>
    rw [em] at o
    cases d with
    | int i =>
      dsimp only at o
      cases hi.same ρ h0 i h1 em
      cases eg : atI gs i with
      | none => rw [eg] at o; exact o.elim
      | some g =>
        rw [eg] at o
        dsimp only at o
        obtain ⟨j, ej, eg2⟩ := Option.bind_eq_some_iff.mp eg
        obtain ⟨f, fd, ps, ef, FF, hk, hb⟩ := F.at eg2
        have ea : atI (fs.map V.ref) i = some (V.ref f) := by
          have e1 : atI fs i = some f := by unfold atI; rw [F.len, ej]; exact ef
          unfold atI at e1 ⊢
          rw [List.length_map]
          obtain ⟨j', q1, q2⟩ := Option.bind_eq_some_iff.mp e1
          rw [q1, Option.bind_some, List.getElem?_map, q2]
          rfl
        obtain ⟨ti, pe, tell⟩ := hi.run
        refine thn ((pe_ix ix_tup (pe_tup F.pa) pe px).run pins s σ H (fun y H1 => y = .ref f ∧ tDs X W kk σ H1 fun vs H2 => spD X.K X.mg n g vs H2 Q (WE W σ)) I ?_) fun u s1 ⟨y, H1, I1, ry, ey, q2⟩ => ?_
        · refine tFns_of ⟨by rw [sizeLine_eq, List.length_map]; exact few, fun p hp => ?_⟩
          refine tell α _ σ ρ h0 i h0 _ (R.newTup hp) (E.ext (Ext.newTup hp)) em ?_
          refine ⟨p, fs.map V.ref, i, V.ref f, rfl, rfl, (.inl (.inl upd_same)), ea, rfl, α, ρ, h0, R.newTup hp, E.ext (Ext.newTup hp), ?_⟩
          refine OkG.bind (OkG.later (Ext.newTup hp) o) fun α2 H2 ds h2 vs e2 R2 r2 o2 => ?_
          split at o2
          · rename_i hl
            exact ⟨α2, h2, ds, R2, r2, hl, o2.wish fun c d H' h => h⟩
          · exact o2.elim
        · subst ey
          cases (show u = Value.ref f from ry)
          refine PySem.W.callWith_K (h₀ := X.base) I.ok.mod.kin hk (thn (ha.run pos pins s1 σ H1 _ I1 q2) fun us s2 ⟨vs, H2, I2, r, q3⟩ => ⟨I2.kIn, ?_⟩) he hpl
          exact run_fnS (E := WE W) FF hr hb (passAt tk σ) I2 r q3
    | _ => exact o.elim
end
end Ml
/-! The mill, part 20: while; a module's number; try with one «except C» without a name. -/
namespace Ml
open PySem PySem.Spec L2
section
variable {X : Cx} {W : WX} {pos : Pos}
/-! ### while: at most n rounds -/
def afterW (f : MS) : O → O
  | .nx ρ h => f ρ h
  | .ct ρ h => f ρ h
  | .bk ρ h => .nx ρ h
  | .rt d h => .rt d h
  | .ex e ρ h => .ex e ρ h
  | .no => .no
def whileK (f : MS) (b : MS) : Bool → Sl → Sto → O
  | true, ρ, h => afterW f (b ρ h)
  | false, ρ, h => .nx ρ h
def whileN (t : MT) (b : MS) : Nat → MS
  | 0 => fun _ _ => .no
  | n + 1 => fun ρ h => (t ρ h).into ρ fun c h1 => whileK (whileN t b n) b c ρ h1
def mWhile (t : MT) (b : MS) : MS := whileN t b 1000
theorem s_while {c : Expr} {body : List Stmt} {t : MT} {b : MS} (hp : PassesOwn (model X.prog X.w) X.A X.env X.xe) (hc : PT X c (tDt X W t)) (hb : PSs X body (tSt X W b)) : PS X (.While c body [] pos) (tSt X W (mWhile t b)) := by
  refine ps_imp (ps_while hp hc hb) fun Dn σ H x => ?_
  refine ⟨fun m σ H => tSt X W (whileN t b m) Dn σ H, ⟨1000, x⟩, fun m σ H x => ?_⟩
  cases m with
  | zero => obtain ⟨α, ρ, h, R, E, o⟩ := x; exact o.elim
  | succ m =>
    have x : tSt X W (fun ρ h => (t ρ h).into ρ fun c h1 => whileK (whileN t b m) b c ρ h1) Dn σ H := x
    refine tSt.step x fun α1 ρ H1 bb h1 v R1 E1 r1 o1 => ?_
    cases r1
    cases bb with
    | false => exact o1 α1 σ H1 .refl R1 E1
    | true =>
      refine ⟨fun σ' H' => tSt X W (whileN t b m) Dn σ' H', fun σ' H' q => ⟨m, Nat.lt_succ_self m, q⟩, α1, ρ, h1, R1, E1, ?_⟩
      have o1 : OkS X.K X.mg W Dn α1 H1 (afterW (whileN t b m) (b ρ h1)) := o1
      cases q : b ρ h1 with
      | nx ρ1 h2 => rw [q] at o1; exact fun α' σ' H' e R' E' => ⟨α', ρ1, h2, R', E', OkS.later e o1⟩
      | ct ρ1 h2 => rw [q] at o1; exact fun α' σ' H' e R' E' => ⟨α', ρ1, h2, R', E', OkS.later e o1⟩
      | bk ρ1 h2 => rw [q] at o1; exact o1
      | rt d h2 => rw [q] at o1; exact o1
      | ex e ρ1 h2 => rw [q] at o1; exact o1
      | no => rw [q] at o1; exact o1.elim
/-! ### a module's number -/
theorem d_glob {x : Str} {i : Int} (h : ∃ u, X.mg x = some u ∧ RelV (.int i) u) (hg : Gl X x := by rfl) (hdb : (x == ("__debug__" : Str)) = false := by decide) : PE X (.Name x pos) (tD X W (mC (.int i))) := by
  obtain ⟨u, h1, h2⟩ := h
  exact d_c (pe_glob (hd := hdb) hg h1 h2) fun _ _ => rfl
/-! ### try .. except C: .. -/
def mTryO (mb : MS) (c : Str) (su : MS) : MS := fun ρ h => match mb ρ h with
  | .ex e ρ1 h1 => if e.cls = c then su ρ1 h1 else .no
  | o => o
theorem s_tryO {body suite : List Stmt} {b₀ : Stmt} {x : Str} {C : Addr} {np pos' : Pos} {mb su : MS} (hs : X.stack = X.env :: X.outer) (hf : X.env.frame = some X.env.locals) (hg : Gl X x) (hdb : (x == ("__debug__" : Str)) = false) (hm : X.mg x = some (.ref C)) (hex : PySem.W.exmOne X.K (.ref C) (.ref C) = some true) (tk : Takes X W)
    (hb : ∀ (W' : WX) (pn : List (Addr × Obj)) (xe : Value → Shared → Prop), Takes (X.tr pn xe) W' → PassesOwn (model X.prog X.w) X.A X.env xe → PSs (X.tr pn xe) body (tSt (X.tr pn xe) W' mb))
    (hsu : ∀ (a : Addr) (oe : Obj) (pn : List (Addr × Obj)), PSs (X.suite a ((a, oe) :: pn)) (b₀ :: suite) (tSt (X.suite a ((a, oe) :: pn)) W su)) :
    PS X (.Try body [.ExceptHandler (some (.Name x np)) none (b₀ :: suite) pos'] [] [] pos) (tSt X W (mTryO mb x su)) := by
  refine ps_imp (ps_try_only (tb := fun W' => tSt X W' mb) (ts := fun _ _ _ => tSt X W su) (Wout := W) hs hf ⟨hg, hdb, .inl hm⟩ tk hb fun a oe cls d pn _ _ => hsu a oe pn) fun Dn σ H q => ?_
  obtain ⟨α, ρ, h, R, E, o⟩ := q
  refine ⟨α, ρ, h, R, E, ?_⟩
  unfold mTryO at o
  cases hq : mb ρ h with
  | nx ρ1 h1 => rw [hq] at o; exact o
  | bk ρ1 h1 => rw [hq] at o; exact o
  | ct ρ1 h1 => rw [hq] at o; exact o
  | rt d h1 => rw [hq] at o; exact o
  | no => rw [hq] at o; exact o
  | ex e ρ1 h1 =>
    rw [hq] at o
    dsimp only at o
    by_cases hc : e.cls = x
    · rw [if_pos hc] at o
      intro α' σ' H' cls dd ext R' E' rx
      obtain ⟨C', h1, h2, _⟩ := rx
      rw [hc, hm] at h1
      cases h1
      subst h2
      exact ⟨true, hex, fun _ a na => ⟨α', ρ1, _, R', E', OkS.later ext o⟩, fun z => Bool.noConfusion z⟩
    · rw [if_neg hc] at o; exact o.elim
end
/-- an own class stands under a built-in one -/
theorem kit_sub {K : PySem.W.Frag} {C : Addr} {B : String} (hm : PySem.W.kitMeta B = true) (h : PySem.W.subIn K (.ref C) (.type B) = some true) : PySem.W.kitOne K (.ref C) (.type B) = some true := by
  have ne : ((Value.ref C == Value.type B)) = false := by rfl
  unfold PySem.W.kitOne PySem.W.kitCls
  rw [ne]
  simp only [Bool.false_eq_true, if_false]
  rw [if_pos hm, h]
end Ml
/-! The mill, part 21: sorted(set(..)) of ints; comprehensions of two for; max with a default. -/
namespace L2
open PySem PySem.Spec PyProof.Rows
section
variable {P : Program} {w : World} {A : Around} {E : Value → Shared → Prop} {s : Shared}
/-- set(xs), xs a list of ints: its table can be walked -/
theorem set_of_ints {l : Addr} {ar : Array Value} (ns : List Int) {Q : Value → Shared → Prop} (calm : A.handled = none) (isl : s.heap.IsList l ar) (nums : IntsAre ar.toList ns) (room : ns.length + 1 < scanBound)
    (go : ∀ (hp' : Heap) (tk c : Nat), SetR w hp' s.heap.objs.size (fun j => decide (j ∈ ns)) c → c ≤ ns.length → (∀ b o, s.heap.get? b = some o → hp'.get? b = some o) → Q (.ref s.heap.objs.size) { s with heap := hp', toks := tk }) :
    wpAny (model P w) A (call (.type "set") [.ref l]) Q E s := by
  have size : ar.size = ns.length := (Array.length_toList (xs := ar)).symm.trans (IntsAre.length nums)
  obtain ⟨c, tl, mro⟩ := F.called_set.mro
  have made := F.called_set.made; have sub := F.called_set.sub
  refine wpAny_call (codeAny_of_tree (show wpAny _ _ (callAny (.type "set") _) _ _ _ from wpAny_pure ⟨Code.quiet_builtin _ (by decide +kernel), codeAny_builtin F.entry_type_call ?_⟩))
  rw [Around.under_plain (weight_type_call_type "set" [.ref l] []) rfl]
  have nt := F.called_set.notType; have cc := F.called_set.canCreate; have tc := F.typeCall_set_1 (.ref l)
  repeat (any_goals (first | assumption | wp_step))
  refine codeAny_mono (code_set_led1 (.ref l) (E := E) (Q₁ := fun ob s1 => ob = .ref s.heap.objs.size ∧ s1 = { s with heap := s.heap.push ({ cls := .type "set", dict := none, data := .set #[] 0 (.fresh 0 0 (!w.params.followText "set-order")) } : Obj) }) ⟨rfl, rfl⟩) fun r s1 hr => ?_
  cases r with
  | error e => exact hr
  | ok fl =>
    cases fl with
    | ret ob =>
      obtain ⟨rfl, rfl⟩ := hr
      have at0 : (s.heap.push ({ cls := .type "set", dict := none, data := .set #[] 0 (.fresh 0 0 (!w.params.followText "set-order")) } : Obj)).get? s.heap.objs.size = some ({ cls := .type "set", dict := none, data := .set #[] 0 (.fresh 0 0 (!w.params.followText "set-order")) } : Obj) := Heap.get?_push_size _ rfl
      have typ : Shared.TypeIs { s with heap := s.heap.push ({ cls := .type "set", dict := none, data := .set #[] 0 (.fresh 0 0 (!w.params.followText "set-order")) } : Obj) } (.ref s.heap.objs.size) "set" := ⟨_, at0, rfl⟩
      have look := F.called_set.init.lookup; have bound := F.called_set.init.bind (.ref s.heap.objs.size)
      repeat (any_goals (first | assumption | wp_step))
      refine codeAny_mono (codeAny_call_builtin (R := wants (fun r s2 => r = .none ∧ ∃ hp' tk c, s2 = { s with heap := hp', toks := tk } ∧ SetR w hp' s.heap.objs.size (fun j => decide (j ∈ ns)) c ∧ c ≤ ns.length ∧ ∀ b o, s.heap.get? b = some o → hp'.get? b = some o) E)
        F.called_set.init.plain F.entry_set_init (check_set_init_1 typ ?_)) fun r2 s2 hr2 => ?_
      · obtain ⟨⟨oc, od, odt, os⟩, lo, lc, ln, ld⟩ := isl
        simp only at lc ld
        subst lc; subst ld
        have lo' : (s.heap.push ({ cls := .type "set", dict := none, data := .set #[] 0 (.fresh 0 0 (!w.params.followText "set-order")) } : Obj)).get? l = some { cls := .type "list", dict := od, data := .seq ar ln, slots := os } := Heap.get?_push_of_some _ lo
        have z1 := F.sub_list_set; have z2 := F.sub_list_frozenset; have z3 : (Value.type "list" == Value.type "dict") = false := by decide
        have isl1 : (s.heap.push ({ cls := .type "set", dict := none, data := .set #[] 0 (.fresh 0 0 (!w.params.followText "set-order")) } : Obj)).IsList l ar := ⟨_, lo', rfl, ln, rfl⟩
        unfold Builtin.«set.__init__» noKeywords Builtin.Frozenset.updateFrom
        generalize eqI : pyIter = it0
        wp_walk
        subst eqI
        refine wpAny_pyIter_list isl1 (wpAny_bind (wpAny_runValue ?_))
        have lt : l < s.heap.objs.size := Heap.lt_size lo
        have calm3 : A.in1.in1.in1.handled = none := by simp [calm]
        have apartI : l ≠ (s.heap.push ({ cls := .type "set", dict := none, data := .set #[] 0 (.fresh 0 0 (!w.params.followText "set-order")) } : Obj)).objs.size := by rw [Heap.size_push]; exact Nat.ne_of_lt (Nat.lt_succ_of_lt lt)
        have apartS : s.heap.objs.size ∉ [(s.heap.push ({ cls := .type "set", dict := none, data := .set #[] 0 (.fresh 0 0 (!w.params.followText "set-order")) } : Obj)).objs.size, l] := by
          rw [Heap.size_push]; simp only [List.mem_cons, List.mem_singleton, List.not_mem_nil, or_false, not_or]; exact ⟨Nat.ne_of_lt (Nat.lt_succ_self _), Nat.ne_of_gt lt⟩
        have vals : ∀ (i : Nat) (v : Value), ar[i]? = some v → ∃ k t, ns[i]? = some k ∧ v = .int k t := fun i v hv => by
          have il : i < ns.length := size ▸ (Array.getElem?_eq_some_iff.mp hv).1
          obtain ⟨t, e⟩ := PyProof.Rows.IntsAre.int_at nums i v (by rw [Array.getElem?_toList]; exact hv)
          exact ⟨ns[i], t, List.getElem?_eq_getElem il, by rw [e, List.getD_eq_getElem?_getD, List.getElem?_eq_getElem il] <;> rfl⟩
        refine set_update_ints ((Walks.list calm3 _ l apartI ar).toS) s.heap.objs.size apartS ns size room vals (ar.size - 0) 0 _ (by omega) (Nat.zero_le _) ⟨⟨_, Heap.get?_push_size _ rfl, rfl, rfl⟩, (isl1.push _)⟩ ?first ?last
        case first => exact ⟨0, Nat.le_refl 0, setR_new_at (Heap.get?_push_of_some _ at0)⟩
        case last =>
          intro s3 c' moved cl R3
          obtain ⟨hp3, g3, d3, tk3, os3⟩ := s3
          have eg : g3 = s.gens := moved.gens
          have ed : d3 = s.drawn := moved.drawn
          have eo : os3 = s.os := moved.os
          subst eg ed eo
          refine (show wpAny _ _ _ _ _ _ from wpAny_pure ?_)
          show wpAny _ _ (ret Value.none) _ _ _
          rw [size] at cl
          refine wpAny_pure ⟨rfl, hp3, tk3, c', rfl, R3, cl, fun b o e => ?_⟩
          have b0 : b < s.heap.objs.size := Heap.lt_size e
          have b2 : b ≠ (s.heap.push ({ cls := .type "set", dict := none, data := .set #[] 0 (.fresh 0 0 (!w.params.followText "set-order")) } : Obj)).objs.size := by rw [Heap.size_push]; exact Nat.ne_of_lt (Nat.lt_succ_of_lt b0)
          exact moved.heap b o (by simp only [List.mem_cons, List.mem_singleton, List.not_mem_nil, or_false, not_or]; exact ⟨Nat.ne_of_lt b0, b2⟩) (Heap.get?_push_of_some _ (Heap.get?_push_of_some _ e))
      · cases r2 with
        | error e => exact hr2
        | ok fl2 =>
          cases fl2 with
          | ret r =>
            obtain ⟨rfl, hp', tk, c', rfl, R3, cl, kp⟩ := hr2
            repeat (any_goals (first | assumption | wp_step))
            exact go _ _ _ R3 cl kp
          | _ => exact hr2.elim
    | _ => exact hr.elim
end
end L2
namespace Ml
open PySem PySem.Spec L2
/-! ### sorted(set(xs)) -/
def insI (k : Int) : List Int → List Int
  | [] => [k]
  | x :: r => if k < x then k :: x :: r else if k = x then x :: r else x :: insI k r
def sortSet : List Int → List Int
  | [] => []
  | k :: r => insI k (sortSet r)
theorem insI_mem {k i : Int} : ∀ {l : List Int}, i ∈ insI k l ↔ i = k ∨ i ∈ l
  | [] => by simp [insI]
  | x :: r => by
    unfold insI
    split
    · simp
    · split
      · rename_i c; subst c; simp
      · rw [List.mem_cons, insI_mem (l := r), List.mem_cons]
        constructor
        · rintro (h | h | h) <;> simp [h]
        · rintro (h | h | h) <;> simp [h]
theorem insI_rises {k : Int} : ∀ {l : List Int}, l.Pairwise (· < ·) → (insI k l).Pairwise (· < ·)
  | [], _ => by simp [insI]
  | x :: r, h => by
    have ⟨h1, h2⟩ := List.pairwise_cons.mp h
    unfold insI
    split
    · rename_i c
      refine List.pairwise_cons.mpr ⟨fun y hy => ?_, h⟩
      rcases List.mem_cons.mp hy with e | e
      · omega
      · have := h1 y e; omega
    · split
      · exact h
      · refine List.pairwise_cons.mpr ⟨fun y hy => ?_, insI_rises h2⟩
        rcases insI_mem.mp hy with e | e
        · omega
        · exact h1 y e
theorem sortSet_rises : ∀ l : List Int, (sortSet l).Pairwise (· < ·)
  | [] => List.Pairwise.nil
  | k :: r => insI_rises (sortSet_rises r)
theorem sortSet_mem {i : Int} : ∀ {l : List Int}, i ∈ sortSet l ↔ i ∈ l
  | [] => Iff.rfl
  | k :: r => by unfold sortSet; rw [insI_mem, sortSet_mem (l := r), List.mem_cons]
theorem rises_unique : ∀ {a b : List Int}, a.Pairwise (· < ·) → b.Pairwise (· < ·) → (∀ i, i ∈ a ↔ i ∈ b) → a = b
  | [], [], _, _, _ => rfl
  | [], y :: _, _, _, m => absurd ((m y).mpr (by simp)) (by simp)
  | x :: _, [], _, _, m => absurd ((m x).mp (by simp)) (by simp)
  | x :: r, y :: t, ha, hb, m => by
    have ⟨a1, a2⟩ := List.pairwise_cons.mp ha
    have ⟨b1, b2⟩ := List.pairwise_cons.mp hb
    have e : x = y := by
      rcases List.mem_cons.mp ((m x).mp (by simp)) with q | q
      · exact q
      · rcases List.mem_cons.mp ((m y).mpr (by simp)) with p | p
        · exact p.symm
        · have := b1 x q; have := a1 y p; omega
    subst e
    rw [rises_unique a2 b2 fun i => ?_]
    constructor
    · intro h
      rcases List.mem_cons.mp ((m i).mp (List.mem_cons_of_mem _ h)) with q | q
      · have := a1 i h; omega
      · exact q
    · intro h
      rcases List.mem_cons.mp ((m i).mpr (List.mem_cons_of_mem _ h)) with q | q
      · have := b1 i h; omega
      · exact q
def mSortSet (m : ME) : ME := fun ρ h => (m ρ h).bind fun d h1 => match d with
  | .ref n => match anyAt h1 n with
    | some xs => match allInt xs with
      | some ns => if ns.length < 64 then .ok (.ref h1.length) (h1 ++ [.lst ((sortSet ns).map .int)]) else .no
      | none => .no
    | none => .no
  | .tup xs => match allInt xs with
    | some ns => if ns.length < 64 then .ok (.ref h1.length) (h1 ++ [.lst ((sortSet ns).map .int)]) else .no
    | none => .no
  | _ => .no
def tSortSet (K : PySem.W.Frag) (ta : TE) : TE := fun σ H Q => ta σ H fun x H1 => ∃ (l : Addr) (ns : List Int), x = .ref l ∧ (SqL K H1 l (ns.map V.int) ∨ SqT K H1 l (ns.map V.int)) ∧ ns.length < 64 ∧ ∀ p, H1 p = none → Q (.ref p) (upd H1 p (.lst ((sortSet ns).map V.int)))
section
variable {X : Cx} {W : WX}
theorem pe_sortSet {a : Expr} {ta : TE} {p p2 q pos : Pos} (hg : Gl X "sorted") (hm : X.mg "sorted" = none) (hg2 : Gl X "set") (hm2 : X.mg "set" = none) (ha : PE X a ta) (hc : X.calm = true := by rfl)
    (na : starEach [a] X.env = (false, eval a X.env) :: starEach [] X.env := by rfl) : PE X (.Call (.Name "sorted" p) [.Call (.Name "set" p2) [a] [] q] [] pos) (tSortSet X.K ta) := by
  refine ⟨fun pins s σ H Q I h => ?_⟩
  refine PyProof.Rows.Call_ (ld_blt I hg hm (show bootBuiltins "sorted" = some (.builtin "sorted") from by decide +kernel) (PyProof.Rows.callWith_builtin1 (PyProof.Rows.args_cons ?_ rfl) rfl rfl))
  refine PyProof.Rows.Call_ (ld_blt I hg2 hm2 PyProof.Rows.boot_set ?_)
  refine PyProof.Rows.callWith_type1 (PyProof.Rows.args_cons (thn (ha.run pins s σ H _ I h) fun v s1 ⟨x, H1, I1, r1, q1⟩ => PyProof.Rows.args_nil ?_) na) na rfl
  obtain ⟨l, ns, rfl, hq, hl, q1⟩ := q1
  cases r1
  have run : ∀ (s2 : Shared) (c : Nat), Inv X pins σ H1 s2 → SetR X.w s2.heap s1.heap.objs.size (fun j => decide (j ∈ ns)) c → c ≤ ns.length → wpAny (model X.prog X.w) X.A (call (.builtin "sorted") [.ref s1.heap.objs.size]) (EP X pins σ Q) X.xe s2 := fun s2 c I2 R cl => by
    refine sorted_set R (I2.ok.hd hc) (by omega) fun s3 b out cap ms kp3 g3 o3 far at3 nums3 rise3 mem3 len3 => ?_
    have es : ms = sortSet ns := rises_unique rise3 (sortSet_rises ns) fun i => by rw [mem3, sortSet_mem]; simp
    subst es
    have nb : H1 b = none := I2.hok.fresh far
    have few : ((sortSet ns).map V.int).length ≤ sizeLine := by rw [List.length_map, len3, sizeLine_eq]; omega
    have J : Inv X pins σ (upd H1 b (.lst ((sortSet ns).map V.int))) { s2 with heap := s3.heap, gens := s3.gens, drawn := s3.drawn, toks := s3.toks } :=
      I2.call (ch := []) (Un.laid kp3 far nb) (I2.hok.laid kp3 far ⟨few, out.toList, cap, vals_of_ints nums3, at3⟩) (by rw [g3]; exact I2.bare) (fun _ z => nomatch z)
    have e3 : s3 = { s2 with heap := s3.heap, gens := s3.gens, drawn := s3.drawn, toks := s3.toks } := by cases s3; cases s2; cases o3; rfl
    rw [e3]
    exact ⟨.ref b, _, J, rfl, q1 b nb⟩
  have fin : ∀ (hp' : Heap) (tk c : Nat), SetR X.w hp' s1.heap.objs.size (fun j => decide (j ∈ ns)) c → c ≤ ns.length → (∀ b o, s1.heap.get? b = some o → hp'.get? b = some o) →
      wpAny (model X.prog X.w) X.A (spliced (backTo pos (starEach [] X.env))) (fun vs s₂ => wpAny (model X.prog X.w) X.A (call (.builtin "sorted") (Value.ref s1.heap.objs.size :: vs)) (EP X pins σ Q) X.xe s₂) X.xe { s1 with heap := hp', toks := tk } := fun hp' tk c R cl kp =>
    PyProof.Rows.args_nil (run _ c (I1.kept kp) R cl)
  rcases hq with hq | hq
  · obtain ⟨its, r, pl, hz⟩ := I1.list hq
    exact set_of_ints ns (I1.ok.hd hc) pl.isList (by simpa using RZ.intsAre_vals r) (by unfold scanBound; omega) fin
  · obtain ⟨its, r, pl, hz⟩ := I1.tuple hq
    exact call_set_tupI ns (I1.ok.hd hc) pl (by simpa using RZ.intsAre_vals r) (by unfold scanBound; omega) fin
theorem d_sortSet {a : Expr} {m : ME} {p p2 q pos : Pos} (hg : Gl X "sorted") (hm : X.mg "sorted" = none) (hg2 : Gl X "set") (hm2 : X.mg "set" = none) (ha : PE X a (tD X W m)) (hc : X.calm = true := by rfl)
    (na : starEach [a] X.env = (false, eval a X.env) :: starEach [] X.env := by rfl) : PE X (.Call (.Name "sorted" p) [.Call (.Name "set" p2) [a] [] q] [] pos) (tD X W (mSortSet m)) := by
  refine pe_imp (pe_sortSet hg hm hg2 hm2 ha hc na) fun σ H Q x => ?_
  refine tG.step x fun α1 ρ H1 d h1 v R1 E1 r1 o1 => ?_
  have fin : ∀ ns : List Int, OkG X.K X.mg W σ (Rep X.K) Q α1 H1 (if ns.length < 64 then .ok (.ref h1.length) (h1 ++ [.lst ((sortSet ns).map .int)]) else .no) → ns.length < 64 ∧ ∀ p, H1 p = none → Q (.ref p) (upd H1 p (.lst ((sortSet ns).map V.int))) := fun ns o => by
    split at o
    · rename_i c
      exact ⟨c, fun p hp => o (α1 ++ [p]) _ (.ref p) (Ext.new hp [p]) (R1.newLst hp (reps_ints _)) (fresh_ref R1)⟩
    · exact o.elim
  cases d with
  | ref n =>
    dsimp only at o1
    cases e1 : anyAt h1 n with
    | none => rw [e1] at o1; exact o1.elim
    | some xs =>
      rw [e1] at o1
      dsimp only at o1
      cases e2 : allInt xs with
      | none => rw [e2] at o1; exact o1.elim
      | some ns =>
        rw [e2] at o1
        obtain ⟨a, vs, _, rfl, hs, rs⟩ := R1.any e1 r1
        have := allInt_rep e2 rs
        subst this
        obtain ⟨c, f⟩ := fin ns o1
        exact ⟨a, ns, rfl, .inl hs, c, f⟩
  | tup xs =>
    dsimp only at o1
    cases e2 : allInt xs with
    | none => rw [e2] at o1; exact o1.elim
    | some ns =>
      rw [e2] at o1
      obtain ⟨a, vs, rfl, hs, rs⟩ := r1
      have := allInt_rep e2 rs
      subst this
      obtain ⟨c, f⟩ := fin ns o1
      exact ⟨a, ns, rfl, .inr hs, c, f⟩
  | _ => exact o1.elim
end
/-! ### two for -/
def loopC2 (w : Wk) (t : Tg) (ts : MT) (mw1 : MW) (t1 : Tg) (ts1 : MT) (me : ME) (vs1 : List Nat) (n : Nat) (ρ : Sl) : Nat → Nat → Sto → R Unit
  | fuel, i, h => match w.item h i with
    | none => .no
    | some none => .ok () h
    | some (some d) => match fuel with
      | 0 => .no
      | fuel + 1 => match setTg t d ρ h with
        | none => .no
        | some ρ1 => match ts ρ1 h with
          | .ok false h2 => loopC2 w t ts mw1 t1 ts1 me vs1 n ρ fuel (i + 1) h2
          | .ok true h2 => match mw1 ρ1 h2 with
            | .ok w1 h3 => match loopC w1 t1 ts1 me n (wipeD ρ1 vs1) (w1.len h3) 0 h3 with
              | .ok _ h4 => loopC2 w t ts mw1 t1 ts1 me vs1 n ρ fuel (i + 1) h4
              | _ => .no
            | _ => .no
          | _ => .no
def mLc2 (mw : MW) (t : Tg) (ts : MT) (mw1 : MW) (t1 : Tg) (ts1 : MT) (me : ME) (vs vs1 : List Nat) : ME := fun ρ h => (mw ρ h).bind fun w h1 =>
  (loopC2 w t ts mw1 t1 ts1 me vs1 h1.length (wipeD ρ vs) (w.len h1) 0 (h1 ++ [.lst []])).bind fun _ h2 => .ok (.ref h1.length) h2
theorem wiped_by {K : PySem.W.Frag} {t : Tg} {vs : List Nat} {σ : L2.St} {v : V} {us : List V} (hv : ∀ i ∈ tgs t, i ∈ vs) : (∀ j, t = .one j → wipe ((wipe σ vs).set j (some v)) vs = wipe σ vs) ∧ (∀ is, t = .many is → wipe (stAll is us (wipe σ vs)) vs = wipe σ vs) := by
  refine ⟨fun j e => ?_, fun is e => ?_⟩
  · subst e
    rw [wipe_set (hv j (by simp [tgs]))]
    exact wipe_wipe
  · subst e
    rw [wipe_stAll (is := is) fun j hj => hv j hj]
    exact wipe_wipe
/-- what comes behind the inner walk -/
def thenC (f : Sto → R Unit) (n : Nat) (r : R Unit) : R D := (match r with
  | .ok _ h => f h
  | _ => .no).bind fun _ h => .ok (.ref n) h
theorem lc2_reads {X : Cx} {W : WX} {mw mw1 : MW} {t t1 : Tg} {ts ts1 : MT} {me : ME} {vs vs1 : List Nat} (hv : ∀ i ∈ tgs t, i ∈ vs) (hv1 : ∀ i ∈ tgs t1, i ∈ vs1) {σ : L2.St} {H : Hp} {Q : VK} (x : tD X W (mLc2 mw t ts mw1 t1 ts1 me vs vs1) σ H Q) :
    tLc2 (tWk X W mw) (gTg X.K t) (tDt X (fun _ _ _ _ => False) ts) (tWk X (fun _ _ _ _ => False) mw1) (gTg X.K t1) (tDt X (fun _ _ _ _ => False) ts1) (tD X (fun _ _ _ _ => False) me) vs vs1 σ H Q := by
  refine tG.step x fun α1 ρ H1 w h1 J R1 E1 wk o1 => ?_
  intro L hL
  have e2 : Ext X.K α1 H1 (α1 ++ [L]) (upd H1 L (.lst [])) := Ext.new hL [L]
  have aL : (α1 ++ [L])[h1.length]? = some L := by rw [← R1.len, List.getElem?_append_right (Nat.le_refl _)]; simp
  have E2 : RelE X.K (α1 ++ [L]) (upd H1 L (.lst [])) (wipeD ρ vs) (wipe σ vs) := (E1.ext e2).wipe vs
  let Inn : Nat → Nat → Hp → Prop := fun i m H' => ∃ α' h', Ext X.K (α1 ++ [L]) (upd H1 L (.lst [])) α' H' ∧ RelH X.K α' h' H' ∧
    OkG X.K X.mg W σ (Rep X.K) Q α' H' ((loopC2 w t ts mw1 t1 ts1 me vs1 h1.length (wipeD ρ vs) m i h').bind fun _ h2 => .ok (.ref h1.length) h2)
  refine ⟨Inn, ⟨w.len h1, α1 ++ [L], h1 ++ [.lst []], .refl, R1.newLst (ds := []) (vs := []) hL rfl, OkG.later e2 o1⟩, ?_⟩
  rintro i m H' ⟨α', h', e', R', o'⟩
  have wk' := WkOk.ext (e2.trans e') wk
  unfold loopC2 at o'
  cases q : w.item h' i with
  | none => rw [q] at o'; exact o'.elim
  | some z =>
    rw [q] at o'
    cases z with
    | none => exact .inl ⟨wk'.stop R' q, o' α' H' _ .refl R' ⟨L, e'.at aL, rfl⟩⟩
    | some d =>
      dsimp only at o'
      cases m with
      | zero => exact o'.elim
      | succ m =>
        dsimp only at o'
        obtain ⟨go, yl⟩ := wk'.go R' q
        refine .inr ⟨go, Inn (i + 1) m, fun H2 n => ⟨m, Nat.lt_succ_self m, n⟩, fun v H2 y => ?_⟩
        obtain ⟨e3, R3, r3⟩ := yl v H2 y
        cases q2 : setTg t d (wipeD ρ vs) h' with
        | none => rw [q2] at o'; exact o'.elim
        | some ρ1 =>
          rw [q2] at o'
          dsimp only at o'
          have o3 := OkG.later e3 o'
          refine gTg_of R3 q2 r3 ((E2.ext e').ext e3) fun us hus E3 => ?_
          refine ⟨?_, ?_⟩
          · cases t with
            | one j => exact (wiped_by (K := X.K) (us := []) hv).1 j rfl
            | many is => exact (wiped_by (K := X.K) (v := .non) hv).2 is rfl
          refine ⟨α', ρ1, h', R3, E3, ?_⟩
          cases q3 : ts ρ1 h' with
          | ex e h2 => rw [q3] at o3; exact o3.elim
          | no => rw [q3] at o3; exact o3.elim
          | ok b h2 =>
            rw [q3] at o3
            intro α4 H4 c e4 R4 r4
            cases r4
            have o4 := OkG.later e4 o3
            cases b with
            | false => simp only [Bool.false_eq_true, if_false]; exact ⟨α4, h2, (e'.trans e3).trans e4, R4, o4⟩
            | true =>
              simp only [if_true]
              dsimp only at o4
              have E4 := E3.ext e4
              refine ⟨α4, ρ1, h2, R4, E4, ?_⟩
              cases q4 : mw1 ρ1 h2 with
              | ex e h3 => rw [q4] at o4; exact o4.elim
              | no => rw [q4] at o4; exact o4.elim
              | ok w1 h3 =>
                rw [q4] at o4
                dsimp only at o4
                intro α5 H5 J1 e5 R5 wk5
                have o5 : OkG X.K X.mg W σ (Rep X.K) Q α5 H5 (thenC (fun h4 => loopC2 w t ts mw1 t1 ts1 me vs1 h1.length (wipeD ρ vs) m (i + 1) h4) h1.length (loopC w1 t1 ts1 me h1.length (wipeD ρ1 vs1) (w1.len h3) 0 h3)) := OkG.later e5 o4
                have up5 := ((e'.trans e3).trans e4).trans e5
                have E5 := (E4.ext e5).wipe vs1
                refine ⟨fun j k H6 => ∃ α6 h6, Ext X.K α5 H5 α6 H6 ∧ RelH X.K α6 h6 H6 ∧ OkG X.K X.mg W σ (Rep X.K) Q α6 H6 (thenC (fun h4 => loopC2 w t ts mw1 t1 ts1 me vs1 h1.length (wipeD ρ vs) m (i + 1) h4) h1.length (loopC w1 t1 ts1 me h1.length (wipeD ρ1 vs1) k j h6)),
                  ⟨w1.len h3, α5, h3, .refl, R5, o5⟩, ?_⟩
                rintro j k H6 ⟨α6, h6, e6, R6, o6⟩
                have wk6 := WkOk.ext e6 wk5
                unfold loopC at o6
                cases p : w1.item h6 j with
                | none => rw [p] at o6; exact o6.elim
                | some z =>
                  rw [p] at o6
                  cases z with
                  | none => exact .inl ⟨wk6.stop R6 p, α6, h6, up5.trans e6, R6, o6⟩
                  | some d1 =>
                    dsimp only at o6
                    cases k with
                    | zero => exact o6.elim
                    | succ k =>
                      dsimp only at o6
                      obtain ⟨go1, yl1⟩ := wk6.go R6 p
                      refine .inr ⟨go1, fun H7 => ∃ α7 h7, Ext X.K α5 H5 α7 H7 ∧ RelH X.K α7 h7 H7 ∧ OkG X.K X.mg W σ (Rep X.K) Q α7 H7 (thenC (fun h4 => loopC2 w t ts mw1 t1 ts1 me vs1 h1.length (wipeD ρ vs) m (i + 1) h4) h1.length (loopC w1 t1 ts1 me h1.length (wipeD ρ1 vs1) k (j + 1) h7)),
                        fun H7 n => ⟨k, Nat.lt_succ_self k, n⟩, fun v1 H7 y1 => ?_⟩
                      obtain ⟨e7, R7, r7⟩ := yl1 v1 H7 y1
                      cases p2 : setTg t1 d1 (wipeD ρ1 vs1) h6 with
                      | none => rw [p2] at o6; exact o6.elim
                      | some ρ2 =>
                        rw [p2] at o6
                        dsimp only at o6
                        have o7 := OkG.later e7 o6
                        refine gTg_of R7 p2 r7 ((E5.ext e6).ext e7) fun us1 hus1 E7 => ?_
                        refine ⟨?_, ?_⟩
                        · cases t1 with
                          | one j => exact (wiped_by (K := X.K) (us := []) hv1).1 j rfl
                          | many is => exact (wiped_by (K := X.K) (v := .non) hv1).2 is rfl
                        refine ⟨α6, ρ2, h6, R7, E7, ?_⟩
                        cases p3 : ts1 ρ2 h6 with
                        | ex e h8 => rw [p3] at o7; exact o7.elim
                        | no => rw [p3] at o7; exact o7.elim
                        | ok b h8 =>
                          rw [p3] at o7
                          intro α8 H8 c e8 R8 r8
                          cases r8
                          have o8 := OkG.later e8 o7
                          cases b with
                          | false => simp only [Bool.false_eq_true, if_false]; exact ⟨α8, h8, (e6.trans e7).trans e8, R8, o8⟩
                          | true =>
                            simp only [if_true]
                            dsimp only at o8
                            refine ⟨α8, ρ2, h8, R8, E7.ext e8, ?_⟩
                            cases p4 : me ρ2 h8 with
                            | ex e h9 => rw [p4] at o8; exact o8.elim
                            | no => rw [p4] at o8; exact o8.elim
                            | ok y h9 =>
                              rw [p4] at o8
                              dsimp only at o8
                              intro α9 H9 c e9 R9 r9
                              have o9 := OkG.later e9 o8
                              cases p5 : lstAt h9 h1.length with
                              | none => rw [p5] at o9; exact o9.elim
                              | some acc =>
                                rw [p5] at o9
                                dsimp only at o9
                                have aL9 : α9[h1.length]? = some L := e9.at (e8.at (e7.at (e6.at (e5.at (e4.at (e3.at (e'.at aL)))))))
                                obtain ⟨a, as, ha, hL', hA, ra⟩ := R9.lst p5 (v := .ref L) ⟨L, aL9, rfl⟩
                                cases hL'
                                by_cases hz : acc.length < 16777216
                                · simp only [hz, if_true] at o9
                                  obtain ⟨Rx, ex⟩ := R9.write (lstAt_of p5) aL9 (Reps.append ra (Reps.one r9))
                                  exact ⟨as, hA, by rw [sizeLine_eq, Reps.length ra]; exact hz, α9, _, (((e6.trans e7).trans e8).trans e9).trans ex, Rx, OkG.later ex o9⟩
                                · simp only [hz, if_false] at o9
                                  exact o9.elim
end Ml
/-! The mill, part 22: for evaluation: what a step leaves is brought to its last form; cells that nothing names are dropped. -/
namespace Ml
open PySem PySem.Spec L2
def fN {β : Type} : Nat → Nat → (Nat → β) → β
  | 0, n, k => k n
  | f + 1, n, k => bif Nat.beq n 0 then k 0 else fN f (Nat.div n 2) fun m => bif Nat.beq (Nat.mod n 2) 1 then k (Nat.succ (Nat.mul 2 m)) else k (Nat.mul 2 m)
theorem fN_eq {β : Type} : ∀ (f n : Nat) (k : Nat → β), fN f n k = k n
  | 0, n, k => rfl
  | f + 1, n, k => by
    unfold fN
    cases h : n.beq 0 with
    | true => rw [Nat.eq_of_beq_eq_true h]; rfl
    | false =>
      simp only [cond_false]
      rw [fN_eq f]
      cases h2 : Nat.beq (Nat.mod n 2) 1 with
      | true => simp only [cond_true]; rw [show Nat.succ (Nat.mul 2 (Nat.div n 2)) = n from by have : n % 2 = 1 := Nat.eq_of_beq_eq_true h2; show 2 * (n / 2) + 1 = n; omega]
      | false => simp only [cond_false]; rw [show Nat.mul 2 (Nat.div n 2) = n from by have : n % 2 ≠ 1 := Nat.ne_of_beq_eq_false h2; show 2 * (n / 2) = n; omega]
def fI {β : Type} (i : Int) (k : Int → β) : β := match i with
  | .ofNat n => fN 80 n fun m => k (.ofNat m)
  | .negSucc n => fN 80 n fun m => k (.negSucc m)
theorem fI_eq {β : Type} (i : Int) (k : Int → β) : fI i k = k i := by cases i <;> (unfold fI; dsimp only; rw [fN_eq])
noncomputable def fD {β : Type} (d : D) : (D → β) → β := D.rec (motive_1 := fun _ => (D → β) → β) (motive_2 := fun _ => (List D → β) → β)
  (fun k => k .non) (fun b k => bif b then k (.bl true) else k (.bl false)) (fun i k => fI i fun j => k (.int j)) (fun s k => k (.str s)) (fun n k => k (.ty n)) (fun n k => fN 40 n fun m => k (.ref m)) (fun _ ih k => ih fun ys => k (.tup ys))
  (fun k => k []) (fun _ _ ih1 ih2 k => ih1 fun y => ih2 fun ys => k (y :: ys)) d
noncomputable def fDs {β : Type} (xs : List D) : (List D → β) → β := List.rec (motive := fun _ => (List D → β) → β) (fun k => k []) (fun x _ ih k => fD x fun y => ih fun ys => k (y :: ys)) xs
theorem fD_eq {β : Type} (d : D) : ∀ k : D → β, fD d k = k d := by
  refine D.rec (motive_1 := fun d => ∀ k : D → β, fD d k = k d) (motive_2 := fun xs => ∀ k : List D → β, D.rec_1 (motive_1 := fun _ => (D → β) → β) (motive_2 := fun _ => (List D → β) → β)
    (fun k => k .non) (fun b k => bif b then k (.bl true) else k (.bl false)) (fun i k => fI i fun j => k (.int j)) (fun s k => k (.str s)) (fun n k => k (.ty n)) (fun n k => fN 40 n fun m => k (.ref m)) (fun _ ih k => ih fun ys => k (.tup ys))
    (fun k => k []) (fun _ _ ih1 ih2 k => ih1 fun y => ih2 fun ys => k (y :: ys)) xs k = k xs) ?_ ?_ ?_ ?_ ?_ ?_ ?_ ?_ ?_ d
  · intro k; rfl
  · intro b k; cases b <;> rfl
  · intro i k; exact fI_eq i fun j => k (.int j)
  · intro s k; rfl
  · intro n k; rfl
  · intro n k; exact fN_eq 40 n fun m => k (.ref m)
  · intro xs ih k; exact ih _
  · intro k; rfl
  · intro x xs h1 h2 k; exact (h1 _).trans (h2 _)
theorem fDs_eq {β : Type} : ∀ (xs : List D) (k : List D → β), fDs xs k = k xs
  | [], k => rfl
  | x :: xs, k => (fD_eq x _).trans (fDs_eq xs _)
noncomputable def fCl {β : Type} (c : Cl) (k : Cl → β) : β := match c with
  | .lst xs => fDs xs fun ys => k (.lst ys)
  | .ro xs => k (.ro xs)
theorem fCl_eq {β : Type} (c : Cl) (k : Cl → β) : fCl c k = k c := by cases c with
  | lst xs => exact fDs_eq xs _
  | ro xs => rfl
noncomputable def fH {β : Type} (h : Sto) : (Sto → β) → β := List.rec (motive := fun _ => (Sto → β) → β) (fun k => k []) (fun x _ ih k => fCl x fun y => ih fun ys => k (y :: ys)) h
theorem fH_eq {β : Type} : ∀ (h : Sto) (k : Sto → β), fH h k = k h
  | [], k => rfl
  | x :: xs, k => (fCl_eq x fun y => fH xs fun ys => k (y :: ys)).trans (fH_eq xs fun ys => k (x :: ys))
noncomputable def fO {β : Type} (o : Option D) (k : Option D → β) : β := match o with
  | none => k none
  | some d => fD d fun d => k (some d)
theorem fO_eq {β : Type} (o : Option D) (k : Option D → β) : fO o k = k o := by cases o with
  | none => rfl
  | some d => exact fD_eq d _
noncomputable def fSl {β : Type} (h : Sl) : (Sl → β) → β := List.rec (motive := fun _ => (Sl → β) → β) (fun k => k []) (fun x _ ih k => fO x fun y => ih fun ys => k (y :: ys)) h
theorem fSl_eq {β : Type} : ∀ (h : Sl) (k : Sl → β), fSl h k = k h
  | [], k => rfl
  | x :: xs, k => (fO_eq x fun y => fSl xs fun ys => k (y :: ys)).trans (fSl_eq xs fun ys => k (x :: ys))
/-! ### statements one after the other -/
noncomputable def mSeqF (m k : MS) : MS := fun ρ h => match m ρ h with
  | .nx ρ1 h1 => fSl ρ1 fun ρ2 => fH h1 fun h2 => k ρ2 h2
  | .rt d h => .rt d h
  | .bk ρ h => .bk ρ h
  | .ct ρ h => .ct ρ h
  | .ex e ρ h => .ex e ρ h
  | .no => .no
theorem mSeqF_eq (m k : MS) : mSeqF m k = mSeqS m k := by
  funext ρ h
  unfold mSeqF mSeqS
  cases m ρ h with
  | nx ρ1 h1 => dsimp only; rw [fSl_eq, fH_eq]
  | _ => rfl
theorem ss_consF {X : Cx} {W : WX} {st : Stmt} {rest : List Stmt} {m k : MS} (h1 : PS X st (tSt X W m)) (h2 : PSs X rest (tSt X W k)) : PSs X (st :: rest) (tSt X W (mSeqF m k)) := by
  rw [mSeqF_eq]; exact ss_cons h1 h2
/-! ### comprehensions -/
noncomputable def loopCF (w : Wk) (t : Tg) (ts : MT) (me : ME) (n : Nat) (ρ : Sl) : Nat → Nat → Sto → R Unit
  | fuel, i, h => match w.item h i with
    | none => .no
    | some none => .ok () h
    | some (some d) => match fuel with
      | 0 => .no
      | fuel + 1 => match setTg t d ρ h with
        | none => .no
        | some ρ1 => fSl ρ1 fun ρ1 => match ts ρ1 h with
          | .ok false h2 => fH h2 fun h2 => loopCF w t ts me n ρ fuel (i + 1) h2
          | .ok true h2 => match me ρ1 h2 with
            | .ok y h3 => match lstAt h3 n with
              | some acc => if acc.length < 16777216 then fH (h3.set n (.lst (acc ++ [y]))) fun h4 => loopCF w t ts me n ρ fuel (i + 1) h4 else .no
              | none => .no
            | _ => .no
          | _ => .no
theorem loopCF_eq {w : Wk} {t : Tg} {ts : MT} {me : ME} {n : Nat} {ρ : Sl} : ∀ (fuel i : Nat) (h : Sto), loopCF w t ts me n ρ fuel i h = loopC w t ts me n ρ fuel i h
  | fuel, i, h => by
    unfold loopCF loopC
    cases w.item h i with
    | none => rfl
    | some z =>
      cases z with
      | none => rfl
      | some d =>
        cases fuel with
        | zero => rfl
        | succ fuel =>
          dsimp only
          cases setTg t d ρ h with
          | none => rfl
          | some ρ1 =>
            dsimp only
            rw [fSl_eq]
            cases ts ρ1 h with
            | ex e h2 => rfl
            | no => rfl
            | ok b h2 =>
              cases b with
              | false => dsimp only; rw [fH_eq]; exact loopCF_eq fuel (i + 1) h2
              | true =>
                dsimp only
                cases me ρ1 h2 with
                | ex e h3 => rfl
                | no => rfl
                | ok y h3 =>
                  dsimp only
                  cases lstAt h3 n with
                  | none => rfl
                  | some acc => dsimp only; rw [fH_eq, loopCF_eq fuel (i + 1)]
noncomputable def mLcF (mw : MW) (t : Tg) (ts : MT) (me : ME) (vs : List Nat) : ME := fun ρ h => (mw ρ h).bind fun w h1 => (loopCF w t ts me h1.length (wipeD ρ vs) (w.len h1) 0 (h1 ++ [.lst []])).bind fun _ h2 => .ok (.ref h1.length) h2
theorem mLcF_eq (mw : MW) (t : Tg) (ts : MT) (me : ME) (vs : List Nat) : mLcF mw t ts me vs = mLc mw t ts me vs := by
  funext ρ h
  unfold mLcF mLc
  congr 1
  funext w h1
  rw [loopCF_eq]
/-! ### for -/
noncomputable def loopSF (w : Wk) (t : Tg) (body : MS) : Nat → Nat → Sl → Sto → O
  | fuel, i, ρ, h => match w.item h i with
    | none => .no
    | some none => .nx ρ h
    | some (some d) => match fuel with
      | 0 => .no
      | fuel + 1 => match setTg t d ρ h with
        | none => .no
        | some ρ1 => fSl ρ1 fun ρ1 => match body ρ1 h with
          | .nx ρ2 h2 => fSl ρ2 fun ρ2 => fH h2 fun h2 => loopSF w t body fuel (i + 1) ρ2 h2
          | .ct ρ2 h2 => fSl ρ2 fun ρ2 => fH h2 fun h2 => loopSF w t body fuel (i + 1) ρ2 h2
          | .bk ρ2 h2 => .nx ρ2 h2
          | .rt d h2 => .rt d h2
          | .ex e ρ2 h2 => .ex e ρ2 h2
          | .no => .no
theorem loopSF_eq {w : Wk} {t : Tg} {body : MS} : ∀ (fuel i : Nat) (ρ : Sl) (h : Sto), loopSF w t body fuel i ρ h = loopS w t body fuel i ρ h
  | fuel, i, ρ, h => by
    unfold loopSF loopS
    cases w.item h i with
    | none => rfl
    | some z =>
      cases z with
      | none => rfl
      | some d =>
        cases fuel with
        | zero => rfl
        | succ fuel =>
          dsimp only
          cases setTg t d ρ h with
          | none => rfl
          | some ρ1 =>
            dsimp only
            rw [fSl_eq]
            cases body ρ1 h with
            | nx ρ2 h2 => dsimp only; rw [fSl_eq, fH_eq]; exact loopSF_eq fuel (i + 1) ρ2 h2
            | ct ρ2 h2 => dsimp only; rw [fSl_eq, fH_eq]; exact loopSF_eq fuel (i + 1) ρ2 h2
            | _ => rfl
noncomputable def mForF (mw : MW) (t : Tg) (body : MS) : MS := fun ρ h => (mw ρ h).into ρ fun w h1 => loopSF w t body (w.len h1) 0 ρ h1
theorem mForF_eq (mw : MW) (t : Tg) (body : MS) : mForF mw t body = mFor mw t body := by
  funext ρ h
  unfold mForF mFor
  congr 1
  funext w h1
  rw [loopSF_eq]
/-! ### cells that nothing names -/
noncomputable def okD (n : Nat) (d : D) : Bool := D.rec (motive_1 := fun _ => Bool) (motive_2 := fun _ => Bool) true (fun _ => true) (fun _ => true) (fun _ => true) (fun _ => true) (fun m => Nat.blt m n) (fun _ ih => ih) true (fun _ _ a b => a && b) d
noncomputable def okDs (n : Nat) (xs : List D) : Bool := List.rec (motive := fun _ => Bool) true (fun x _ ih => okD n x && ih) xs
noncomputable def okCl (n : Nat) : Cl → Bool
  | .lst xs => okDs n xs
  | .ro _ => true
noncomputable def okH (n : Nat) (h : Sto) : Bool := List.rec (motive := fun _ => Bool) true (fun c _ ih => okCl n c && ih) h
theorem okD_tup (n : Nat) : ∀ xs : List D, okD n (.tup xs) = okDs n xs
  | [] => rfl
  | x :: xs => congrArg (okD n x && ·) (okD_tup n xs)
theorem okDs_cons {n : Nat} {x : D} {xs : List D} (h : okDs n (x :: xs) = true) : okD n x = true ∧ okDs n xs = true := Bool.and_eq_true_iff.mp h
theorem okDs_ints {n : Nat} : ∀ ns : List Int, okDs n (ns.map D.int) = true
  | [] => rfl
  | _ :: ns => okDs_ints ns
theorem okH_at {n : Nat} : ∀ {h : Sto} {i : Nat} {c : Cl}, okH n h = true → h[i]? = some c → okCl n c = true
  | [], _, _, _, e => by simp at e
  | x :: h, 0, c, k, e => by simp at e; subst e; exact (Bool.and_eq_true_iff.mp k).1
  | x :: h, i + 1, c, k, e => okH_at (h := h) (i := i) (Bool.and_eq_true_iff.mp k).2 (by simpa using e)
/-! ### a call runs on a store of its own -/
mutual
theorem Rep.any {K : PySem.W.Frag} {α β : List Addr} {H : Hp} : ∀ (d : D) {v : V}, okD 0 d = true → Rep K α H d v → Rep K β H d v
  | .non, _, _, r => r
  | .bl _, _, _, r => r
  | .int _, _, _, r => r
  | .str _, _, _, r => r
  | .ty _, _, _, r => r
  | .ref n, _, k, _ => absurd (Nat.le_of_ble_eq_true (show Nat.blt n 0 = true from k)) (Nat.not_lt_zero n)
  | .tup xs, _, k, ⟨a, vs, q, t, r⟩ => ⟨a, vs, q, t, Reps.any xs ((okD_tup _ xs) ▸ k) r⟩
theorem Reps.any {K : PySem.W.Frag} {α β : List Addr} {H : Hp} : ∀ (ds : List D) {vs : List V}, okDs 0 ds = true → Reps K α H ds vs → Reps K β H ds vs
  | [], _, _, r => r
  | d :: ds, _, k, ⟨v, r, q, h, t⟩ => ⟨v, r, q, Rep.any d (okDs_cons k).1 h, Reps.any ds (okDs_cons k).2 t⟩
end
mutual
def shD (n : Nat) : D → D
  | .non => .non
  | .bl b => .bl b
  | .int i => .int i
  | .str s => .str s
  | .ty t => .ty t
  | .ref m => .ref (n + m)
  | .tup xs => .tup (shDs n xs)
def shDs (n : Nat) : List D → List D
  | [] => []
  | x :: xs => shD n x :: shDs n xs
end
def shCl (n : Nat) : Cl → Cl
  | .lst xs => .lst (shDs n xs)
  | .ro xs => .ro xs
mutual
theorem Rep.sh {K : PySem.W.Frag} {α β : List Addr} {H : Hp} : ∀ (d : D) {v : V}, Rep K α H d v → Rep K (β ++ α) H (shD β.length d) v
  | .non, _, r => r
  | .bl _, _, r => r
  | .int _, _, r => r
  | .str _, _, r => r
  | .ty _, _, r => r
  | .ref n, _, ⟨a, e, q⟩ => ⟨a, by rw [List.getElem?_append_right (Nat.le_add_right ..), Nat.add_sub_cancel_left]; exact e, q⟩
  | .tup xs, _, ⟨a, vs, q, t, r⟩ => ⟨a, vs, q, t, Reps.sh xs r⟩
theorem Reps.sh {K : PySem.W.Frag} {α β : List Addr} {H : Hp} : ∀ (ds : List D) {vs : List V}, Reps K α H ds vs → Reps K (β ++ α) H (shDs β.length ds) vs
  | [], _, r => r
  | d :: ds, _, ⟨v, r, q, h, t⟩ => ⟨v, r, q, Rep.sh d h, Reps.sh ds t⟩
end
theorem shDs_ints {n : Nat} : ∀ ns : List Int, shDs n (ns.map D.int) = ns.map D.int
  | [] => rfl
  | _ :: ns => congrArg (_ :: ·) (shDs_ints ns)
/-- what an own run leaves, beside what was there -/
theorem sqR_own {K : PySem.W.Frag} {α' : List Addr} {H H' : Hp} {a : Addr} {vs : List V} (e : Ext K [] H α' H') (x : SqR K H a vs) : SqR K H' a vs := by
  rcases x with ⟨o, x⟩ | x
  · exact .inl ⟨o, e.frz a o _ x⟩
  · exact .inr x
theorem own_run {K : PySem.W.Frag} {α1 α' : List Addr} {h1 h' : Sto} {H H' : Hp} (R1 : RelH K α1 h1 H) (e : Ext K [] H α' H') (R : RelH K α' h' H') :
    Ext K α1 H (α1 ++ α') H' ∧ RelH K (α1 ++ α') (h1 ++ h'.map (shCl α1.length)) H' := by
  have x : Ext K α1 H (α1 ++ α') H' := ⟨⟨α', rfl⟩, fun a ha hn => e.fsh a ((List.mem_append.mp ha).resolve_left hn) (by simp), e.dom, fun a vs _ y => e.far a vs (by simp) y, e.frz, e.tup, e.xd⟩
  refine ⟨x, ?_⟩
  have part : ∀ {i : Nat} {c : Cl}, (h1 ++ h'.map (shCl α1.length))[i]? = some c → (i < h1.length ∧ h1[i]? = some c) ∨ (h1.length ≤ i ∧ ∃ c', h'[i - h1.length]? = some c' ∧ c = shCl α1.length c') := fun {i c} q => by
    by_cases hi : i < h1.length
    · rw [List.getElem?_append_left hi] at q; exact .inl ⟨hi, q⟩
    · rw [List.getElem?_append_right (by omega), List.getElem?_map] at q
      cases p : h'[i - h1.length]? with
      | none => rw [p] at q; cases q
      | some c' => rw [p] at q; exact .inr ⟨by omega, c', rfl, (Option.some.inj q).symm⟩
  have lst_of : ∀ {c' : Cl} {xs : List D}, Cl.lst xs = shCl α1.length c' → ∃ ys, c' = .lst ys := fun {c' xs} q => by
    cases c' with
    | lst ys => exact ⟨ys, rfl⟩
    | ro ys => cases q
  have at1 : ∀ {i : Nat} {a : Addr} {xs : List D}, i < h1.length → h1[i]? = some (.lst xs) → (α1 ++ α')[i]? = some a → α1[i]? = some a ∧ H a ≠ none := fun {i a xs} hi hc ha => by
    rw [List.getElem?_append_left (by rw [R1.len]; exact hi)] at ha
    obtain ⟨b, hb, vs, hv, _⟩ := R1.cell i _ hc
    rw [ha] at hb; cases hb
    exact ⟨ha, by rw [hv]; intro z; cases z⟩
  have at2 : ∀ {i : Nat} {a : Addr}, h1.length ≤ i → (α1 ++ α')[i]? = some a → α'[i - h1.length]? = some a ∧ H a = none := fun {i a} hi ha => by
    rw [List.getElem?_append_right (by rw [R1.len]; exact hi), R1.len] at ha
    exact ⟨ha, e.fsh a (List.mem_of_getElem? ha) (by simp)⟩
  refine ⟨fun i j a xs ys c1 c2 a1 a2 => ?_, by simp [R1.len, R.len], fun i xs c => ?_, fun i c hc => ?_⟩
  · rcases part c1 with ⟨i1, e1⟩ | ⟨i1, c1', e1, q1⟩
    · rcases part c2 with ⟨j1, e2⟩ | ⟨j1, c2', e2, q2⟩
      · exact R1.inj i j a xs ys e1 e2 (at1 i1 e1 a1).1 (at1 j1 e2 a2).1
      · exact absurd (at2 j1 a2).2 (at1 i1 e1 a1).2
    · rcases part c2 with ⟨j1, e2⟩ | ⟨j1, c2', e2, q2⟩
      · exact absurd (at2 i1 a1).2 (at1 j1 e2 a2).2
      · obtain ⟨ys1, rfl⟩ := lst_of q1
        obtain ⟨ys2, rfl⟩ := lst_of q2
        have := R.inj _ _ a _ _ e1 e2 (at2 i1 a1).1 (at2 j1 a2).1
        omega
  · rcases part c with ⟨i1, e1⟩ | ⟨i1, c', e1, q1⟩
    · exact R1.ro i xs e1
    · cases c' with
      | lst ys => cases q1
      | ro ys => cases q1; exact R.ro _ _ e1
  · rcases part hc with ⟨i1, e1⟩ | ⟨i1, c', e1, q1⟩
    · obtain ⟨a, ha, y⟩ := R1.cell i c e1
      refine ⟨a, by rw [List.getElem?_append_left (by rw [R1.len]; exact i1)]; exact ha, ?_⟩
      cases c with
      | lst xs => obtain ⟨vs, hv, rv⟩ := y; exact ⟨vs, e.far a vs (by simp) hv, Reps.ext x xs rv⟩
      | ro xs => obtain ⟨vs, hv, rv⟩ := y; exact ⟨vs, sqR_own e hv, Reps.ext x xs rv⟩
    · subst q1
      obtain ⟨a, ha, y⟩ := R.cell _ c' e1
      refine ⟨a, by rw [List.getElem?_append_right (by rw [R1.len]; exact i1), R1.len]; exact ha, ?_⟩
      cases c' with
      | lst xs => obtain ⟨vs, hv, rv⟩ := y; exact ⟨vs, hv, Reps.sh xs rv⟩
      | ro xs =>
        obtain ⟨vs, hv, rv⟩ := y
        obtain ⟨ns, rfl⟩ := R.ro _ _ e1
        exact ⟨vs, hv, by have := Reps.sh (β := α1) (ns.map D.int) rv; rw [shDs_ints] at this; exact this⟩
noncomputable def empR (r' : R D) (h : Sto) : R D → R D
  | .ok d h' => bif okD 0 d then fD d fun d => .ok d h else fN 40 h.length fun n => fD (shD n d) fun d => .ok d (h ++ h'.map (shCl n))
  | .ex e _ => bif okDs 0 (e.fs.map (·.2)) then .ex e h else r'
  | .no => r'
noncomputable def emp (g : List D → Sto → R D) : List D → Sto → R D := fun ds h => bif okDs 0 ds then fDs ds fun ds => empR (g ds h) h (g ds []) else g ds h
theorem relH_nil {K : PySem.W.Frag} {H : Hp} : RelH K [] [] H := ⟨fun _ _ _ _ _ h => by simp at h, rfl, fun _ _ h => by simp at h, fun _ _ h => by simp at h⟩
theorem fn_emp {P : Program} {w : World} {K : PySem.W.Frag} {mg : Str → Option Value} {base : Heap} {k : Nat} {f : Addr} {fd : FuncData} {ps : List Str} {n : Nat} {g : List D → Sto → R D} (F : FnOk P w K mg base (L2.CX P w) k f fd ps (spD K mg n g)) :
    FnOk P w K mg base (L2.CX P w) k f fd ps (spD K mg n (emp g)) := by
  refine F.imp fun vs H Q E ⟨α, h, ds, R, r, l, o⟩ => ?_
  unfold emp at o
  cases c : okDs 0 ds with
  | false => rw [c] at o; exact ⟨α, h, ds, R, r, l, o⟩
  | true =>
    rw [c] at o
    simp only [cond_true] at o
    rw [fDs_eq] at o
    have old : OkG K mg (fun cls dd _ H' => E cls dd H') [] (Rep K) Q α H (g ds h) → spD K mg n g vs H Q E := fun o => ⟨α, h, ds, R, r, l, o⟩
    cases q : g ds [] with
    | no => rw [q] at o; exact old o
    | ok d h' =>
      rw [q] at o
      refine ⟨[], [], ds, relH_nil, Reps.any ds c r, l, ?_⟩
      rw [q]
      intro α' H' v e R' rv
      have ⟨x, R2⟩ := own_run R e R'
      unfold empR at o
      dsimp only at o
      cases c2 : okD 0 d with
      | true =>
        rw [c2] at o
        simp only [cond_true] at o
        rw [fD_eq] at o
        have ⟨x0, R0⟩ := own_run (α' := []) (h' := []) R ⟨⟨[], rfl⟩, fun _ h => (by simp at h), e.dom, e.far, e.frz, e.tup, e.xd⟩ relH_nil
        rw [List.append_nil] at x0
        rw [List.map_nil, List.append_nil, List.append_nil] at R0
        exact o α H' v x0 R0 (Rep.any d c2 rv)
      | false =>
        rw [c2] at o
        simp only [cond_false] at o
        rw [fN_eq, fD_eq, ← R.len] at o
        exact o (α ++ α') H' v x R2 (Rep.sh d rv)
    | ex ee h' =>
      rw [q] at o
      unfold empR at o
      dsimp only at o
      cases c2 : okDs 0 (ee.fs.map (·.2)) with
      | false => rw [c2] at o; exact old o
      | true =>
        rw [c2] at o
        simp only [cond_true] at o
        refine ⟨[], [], ds, relH_nil, Reps.any ds c r, l, ?_⟩
        rw [q]
        intro α' H' cls dd e R' rx
        have ⟨x0, R0⟩ := own_run (α' := []) (h' := []) R ⟨⟨[], rfl⟩, fun _ h => (by simp at h), e.dom, e.far, e.frz, e.tup, e.xd⟩ relH_nil
        rw [List.append_nil] at x0
        rw [List.map_nil, List.append_nil, List.append_nil] at R0
        refine o α H' cls dd x0 R0 ?_
        obtain ⟨C, m1, m2, m3⟩ := rx
        refine ⟨C, m1, m2, ?_⟩
        cases dd with
        | none => exact m3
        | some dd =>
          obtain ⟨fs, f1, f2, f3⟩ := m3
          exact ⟨fs, f1, f2, Reps.any _ c2 f3⟩
/-- a def's run says True -/
def saysTrue : R D → Bool
  | .ok (.bl b) _ => b
  | _ => false
theorem says_true {r : R D} (h : saysTrue r = true) : ∃ h', r = .ok (.bl true) h' := by
  cases r with
  | ok d h' =>
    cases d with
    | bl b => cases b with
      | true => exact ⟨h', rfl⟩
      | false => cases h
    | _ => cases h
  | _ => cases h
section
variable {X : Cx} {W : WX} {pos p : Pos}
theorem d_lcF {elt tg iter : Expr} {ifs : List Expr} {scope : Scope} (own : List (Str × Nat)) {mw : MW} {t : Tg} {ts : MT} {me : ME} (hc : X.calm = true) (hN : X.N.Nodup) (hi : PI X tg iter (tWk X W mw)) (ok : BlkOk X.N X.env.scope scope own)
    (hv : ∀ i ∈ tgs t, i ∈ own.map (·.2))
    (hg : ∀ (s : Shared) (H : Hp) (C : Addr) (cl : List (Str × Addr)) (fp : List Addr), PG (X.blk s H scope (compEnvC scope cl C X.env) fp) tg (gTg X.K t))
    (ht : ∀ (s : Shared) (H : Hp) (C : Addr) (cl : List (Str × Addr)) (fp : List Addr), PTs (X.blk s H scope (compEnvC scope cl C X.env) fp) ifs (tDt (X.blk s H scope (compEnvC scope cl C X.env) fp) (fun _ _ _ _ => False) ts))
    (he : ∀ (s : Shared) (H : Hp) (C : Addr) (cl : List (Str × Addr)) (fp : List Addr), PE (X.blk s H scope (compEnvC scope cl C X.env) fp) elt (tD (X.blk s H scope (compEnvC scope cl C X.env) fp) (fun _ _ _ _ => False) me)) (hs : ∀ x, foldedSetIterable iter X.env x = pure x := by intro _; rfl) :
    PE X (.ListComp elt [⟨tg, iter, ifs, 0⟩] scope pos) (tD X W (mLcF mw t ts me (own.map (·.2)))) := by rw [mLcF_eq]; exact d_lc own hc hN hi ok hv hg ht he hs
theorem s_setLcF (i : Nat) {y : Str} {py : Pos} {elt tg iter : Expr} {ifs : List Expr} {scope : Scope} (own : List (Str × Nat)) {spos : Pos} {mw : MW} {t : Tg} {ts : MT} {me : ME} (hc : X.calm = true) (hN : X.N.Nodup) (hi : PI X tg iter (tWk X W mw)) (ok : BlkOk X.N X.env.scope scope own)
    (hv : ∀ i ∈ tgs t, i ∈ own.map (·.2))
    (hg : ∀ (s : Shared) (H : Hp) (C : Addr) (cl : List (Str × Addr)) (fp : List Addr), PG (X.blk s H scope (compEnvC scope cl C X.env) fp) tg (gTg X.K t))
    (ht : ∀ (s : Shared) (H : Hp) (C : Addr) (cl : List (Str × Addr)) (fp : List Addr), PTs (X.blk s H scope (compEnvC scope cl C X.env) fp) ifs (tDt (X.blk s H scope (compEnvC scope cl C X.env) fp) (fun _ _ _ _ => False) ts))
    (he : ∀ (s : Shared) (H : Hp) (C : Addr) (cl : List (Str × Addr)) (fp : List Addr), PE (X.blk s H scope (compEnvC scope cl C X.env) fp) elt (tD (X.blk s H scope (compEnvC scope cl C X.env) fp) (fun _ _ _ _ => False) me))
    (hsw : swapsWith (.ListComp elt [⟨tg, iter, ifs, 0⟩] scope pos) (some (.Name y py)) spos.line X.env = pure true)
    (hy : X.N[i]? = some y := by rfl) (hyl : X.env.scope.names.lookup y = some .local := by rfl) (hs : ∀ x, foldedSetIterable iter X.env x = pure x := by intro _; rfl) :
    PS X (.Assign [.Name y py] (.ListComp elt [⟨tg, iter, ifs, 0⟩] scope pos) spos) (tSt X W (mSet i (mLcF mw t ts me (own.map (·.2))))) := by rw [mLcF_eq]; exact s_setLc i own hc hN hi ok hv hg ht he hsw hy hyl hs
theorem s_forF {iter tge : Expr} {body : List Stmt} {mw : MW} {t : Tg} {mb : MS} (hp : PassesOwn (model X.prog X.w) X.A X.env X.xe) (hc : X.calm = true) (hi : PI X tge iter (tWk X W mw)) (hg : PG X tge (gTg X.K t)) (hb : PSs X body (tSt X W mb))
    (hs : ∀ x, foldedSetIterable iter X.env x = pure x := by intro _; rfl) : PS X (.For tge iter body [] pos) (tSt X W (mForF mw t mb)) := by rw [mForF_eq]; exact s_for hp hc hi hg hb hs
end
theorem empR_true {r' : R D} {h h' : Sto} : empR r' h (.ok (.bl true) h') = .ok (.bl true) h := by
  unfold empR
  dsimp only
  rw [show okD 0 (.bl true) = true from rfl]
  simp only [cond_true]
  rw [fD_eq]
theorem emp_nil (g : List D → Sto → R D) (h : Sto) : emp g [] h = empR (g [] h) h (g [] []) := by
  unfold emp
  rw [show okDs 0 [] = true from rfl]
  simp only [cond_true]
  rw [fDs_eq]
theorem emp_of {g : List D → Sto → R D} (e : saysTrue (g [] []) = true) (h : Sto) : emp g [] h = .ok (.bl true) h := by
  rw [emp_nil]
  obtain ⟨h', e'⟩ := says_true e
  rw [e', empR_true]
end Ml
/-! The mill, part 23: comprehensions of two for, told; xs += ys; max with a default. -/
namespace Ml
open PySem PySem.Spec L2
section
variable {X : Cx} {W : WX} {pos p : Pos}
theorem d_lc2 {elt tg iter tg1 iter1 : Expr} {ifs ifs1 : List Expr} {scope : Scope} (own : List (Str × Nat)) (vs1 : List Nat) {mw mw1 : MW} {t t1 : Tg} {ts ts1 : MT} {me : ME} (hc : X.calm = true) (hN : X.N.Nodup) (hi : PI X tg iter (tWk X W mw)) (ok : BlkOk X.N X.env.scope scope own)
    (hv : ∀ i ∈ tgs t, i ∈ own.map (·.2)) (hv1 : ∀ i ∈ tgs t1, i ∈ vs1) (hv2 : ∀ i ∈ vs1, i ∈ own.map (·.2))
    (hg : ∀ (s : Shared) (H : Hp) (C : Addr) (cl : List (Str × Addr)) (fp : List Addr), PG (X.blk s H scope (compEnvC scope cl C X.env) fp) tg (gTg X.K t))
    (ht : ∀ (s : Shared) (H : Hp) (C : Addr) (cl : List (Str × Addr)) (fp : List Addr), PTs (X.blk s H scope (compEnvC scope cl C X.env) fp) ifs (tDt (X.blk s H scope (compEnvC scope cl C X.env) fp) (fun _ _ _ _ => False) ts))
    (hi1 : ∀ (s : Shared) (H : Hp) (C : Addr) (cl : List (Str × Addr)) (fp : List Addr), PI (X.blk s H scope (compEnvC scope cl C X.env) fp) tg1 iter1 (tWk (X.blk s H scope (compEnvC scope cl C X.env) fp) (fun _ _ _ _ => False) mw1))
    (hg1 : ∀ (s : Shared) (H : Hp) (C : Addr) (cl : List (Str × Addr)) (fp : List Addr), PG (X.blk s H scope (compEnvC scope cl C X.env) fp) tg1 (gTg X.K t1))
    (ht1 : ∀ (s : Shared) (H : Hp) (C : Addr) (cl : List (Str × Addr)) (fp : List Addr), PTs (X.blk s H scope (compEnvC scope cl C X.env) fp) ifs1 (tDt (X.blk s H scope (compEnvC scope cl C X.env) fp) (fun _ _ _ _ => False) ts1))
    (he : ∀ (s : Shared) (H : Hp) (C : Addr) (cl : List (Str × Addr)) (fp : List Addr), PE (X.blk s H scope (compEnvC scope cl C X.env) fp) elt (tD (X.blk s H scope (compEnvC scope cl C X.env) fp) (fun _ _ _ _ => False) me))
    (hs : ∀ x, foldedSetIterable iter X.env x = pure x := by intro _; rfl) (hs1 : ∀ env x, foldedSetIterable iter1 env x = pure x := by intro _ _; rfl) :
    PE X (.ListComp elt [⟨tg, iter, ifs, 0⟩, ⟨tg1, iter1, ifs1, 0⟩] scope pos) (tD X W (mLc2 mw t ts mw1 t1 ts1 me (own.map (·.2)) vs1)) :=
  pe_imp (pe_lc2 (tt := tDt X (fun _ _ _ _ => False) ts) (wi1 := tWk X (fun _ _ _ _ => False) mw1) (tt1 := tDt X (fun _ _ _ _ => False) ts1) (te := tD X (fun _ _ _ _ => False) me) hc hN hi ok hv2 hg ht hi1 hg1 ht1 he hs hs1) fun _ _ _ x => lc2_reads hv hv1 x
/-! ### += of ints, of lists -/
def addIp : D → D → Sto → R D
  | .int i, .int j, h => .ok (.int (i + j)) h
  | .ref n, .ref m, h => match lstAt h n, lstAt h m with
    | some xs, some ys => if xs.length + ys.length ≤ 16777216 then .ok (.ref n) (h.set n (.lst (xs ++ ys))) else .no
    | _, _ => .no
  | _, _, _ => .no
theorem ip_addA : PIp X .Add (fun x y H Q => ipI (fun i j => i + j) x y H Q ∨ rExt2 x y H Q) := fun pins s σ H x y v u Q I r1 r2 h => h.elim (ip_add pins s σ H x y v u Q I r1 r2) (iop_ext pins s σ H x y v u Q I r1 r2)
theorem ipA_ok : OpI X addIp (fun x y H Q => ipI (fun i j => i + j) x y H Q ∨ rExt2 x y H Q) := by
  intro W σ Q α h H x y u v R r1 r2 o
  cases x with
  | int i =>
    cases y with
    | int j =>
      cases (show u = .int i from r1)
      cases (show v = .int j from r2)
      exact .inl ⟨i, j, rfl, rfl, o α H _ .refl R rfl⟩
    | _ => exact o.elim
  | ref n =>
    cases y with
    | ref m =>
      have o : OkG X.K X.mg W σ (Rep X.K) Q α H (match lstAt h n, lstAt h m with
        | some xs, some ys => if xs.length + ys.length ≤ 16777216 then .ok (.ref n) (h.set n (.lst (xs ++ ys))) else .no
        | _, _ => .no) := o
      cases e1 : lstAt h n with
      | none => rw [e1] at o; exact o.elim
      | some xs =>
        cases e2 : lstAt h m with
        | none => rw [e1, e2] at o; exact o.elim
        | some ys =>
          rw [e1, e2] at o
          dsimp only at o
          split at o
          · rename_i c
            obtain ⟨a, vs, ha, rfl, hA, ra⟩ := R.lst e1 r1
            obtain ⟨b, ws, hb, rfl, hB, rb⟩ := R.lst e2 r2
            obtain ⟨R2, x⟩ := R.write (lstAt_of e1) ha (Reps.append ra rb)
            refine .inr ⟨a, b, vs, ws, rfl, rfl, hA, hB, by rw [sizeLine_eq, Reps.length ra, Reps.length rb]; exact c, o α _ _ x R2 ⟨a, ha, rfl⟩⟩
          · exact o.elim
    | _ => exact o.elim
  | _ => exact o.elim
/-! ### max(xs, default=i), xs a list of ints -/
def maxDF (i : Int) (d : D) (h : Sto) : R D := match d with
  | .ref n => match anyAt h n with
    | some xs => match allInt xs with
      | some [] => .ok (.int i) h
      | some (y :: ys) => .ok (.int (maxI y ys)) h
      | none => .no
    | none => .no
  | _ => .no
def mMaxD (i : Int) (m : ME) : ME := fun ρ h => (m ρ h).bind fun d h1 => maxDF i d h1
theorem maxI_of : ∀ (xs : List Int) (x : Int), PySem.W.maxOf x xs = maxI x xs
  | [], x => rfl
  | y :: ys, x => by
    show PySem.W.maxOf (if PySem.W.DatumOrd.lt x y = true then y else x) ys = maxI (if y > x then y else x) ys
    rw [maxI_of ys]
    have e : (PySem.W.DatumOrd.lt x y = true) = (y > x) := by
      show (decide (x < y) = true) = (x < y)
      simp
    simp only [e]
def tMaxD (K : PySem.W.Frag) (i : Int) (ta : TE) : TE := fun σ H Q => ta σ H fun x H1 => ∃ (l : Addr) (ns : List Int), x = .ref l ∧ SqL K H1 l (ns.map V.int) ∧ Q (.int (match ns with | [] => i | y :: ys => maxI y ys)) H1
theorem pe_maxD {a : Expr} {ta : TE} {i : Int} {j} {pk pc : Pos} (hg : Gl X "max") (hm : X.mg "max" = none) (ha : PE X a ta) (hu : X.A.units + 1 < cLine) (hc : X.calm = true := by rfl)
    (na : starEach [a] X.env = (false, eval a X.env) :: starEach [] X.env := by rfl) :
    PE X (.Call (.Name "max" p) [a] [⟨some "default", .Constant (.int i) j pc, pk⟩] pos) (tMaxD X.K i ta) := by
  refine ⟨fun pins s σ H Q I h => ?_⟩
  refine wpAny_Call_Name_kw (ld_blt I hg hm (show bootBuiltins "max" = some (.builtin "max") from by decide +kernel) ?_)
  refine PyProof.Rows.callWith_kw ?_ (by rw [na]; rfl) (by rw [na]; rfl) (by rfl) (by rfl)
  rw [na]
  refine Calls.spliced_cons (thn (ha.run pins s σ H _ I h) fun v s1 ⟨x, H1, I1, r1, q1⟩ => Calls.spliced_nil ?_)
  obtain ⟨l, ns, rfl, hq, q1⟩ := q1
  cases r1
  refine PyProof.Rows.kws_cons (thn (pe_int.run pins s1 σ H1 (fun v H2 => v = .int i ∧ H2 = H1) I1 ⟨rfl, rfl⟩) fun dv s2 ⟨y, H2, I2, r2, e2, e3⟩ => PyProof.Rows.kws_nil ?_)
  subst e2 e3
  obtain ⟨its, r, pl, hz⟩ := I2.list hq
  show wpAny (model X.prog X.w) X.A (call (.builtin "max") [.ref l] [(Str.ofString "default", dv)]) (EP X pins σ Q) X.xe s2
  have nums : PyProof.Rows.IntsAre its.toArray.toList ns := by simpa using RZ.intsAre_vals r
  refine PySem.W.max_list_datum_default (α := Int) (xs := ns) (I2.ok.hd hc) pl.isList (PySem.W.HoldAll.of_ints nums) (by show X.A.units + 1 + 0 < cLine; omega) (fun e h' tk k => ?_) (fun y ys n v h' tk e hv hh k => ?_)
  · subst e
    exact ⟨.int i, H2, I2.kept (t' := tk) k, r2, q1⟩
  · subst e
    obtain ⟨t, rfl⟩ := PySem.W.int_of_holds hh
    exact ⟨.int (maxI y ys), H2, I2.kept (t' := tk) k, ⟨t, by rw [maxI_of]⟩, q1⟩
theorem d_maxD {a : Expr} {m : ME} {i : Int} {j} {pk pc : Pos} (hg : Gl X "max") (hm : X.mg "max" = none) (ha : PE X a (tD X W m)) (hu : X.A.units + 1 < cLine) (hc : X.calm = true := by rfl)
    (na : starEach [a] X.env = (false, eval a X.env) :: starEach [] X.env := by rfl) : PE X (.Call (.Name "max" p) [a] [⟨some "default", .Constant (.int i) j pc, pk⟩] pos) (tD X W (mMaxD i m)) := by
  refine pe_imp (pe_maxD hg hm ha hu hc na) fun σ H Q x => ?_
  refine tG.step x fun α1 ρ H1 d h1 v R1 E1 r1 o1 => ?_
  cases d with
  | ref n =>
    unfold maxDF at o1
    dsimp only at o1
    cases e1 : anyAt h1 n with
    | none => rw [e1] at o1; exact o1.elim
    | some xs =>
      rw [e1] at o1
      dsimp only at o1
      cases e2 : allInt xs with
      | none => rw [e2] at o1; exact o1.elim
      | some ns =>
        rw [e2] at o1
        obtain ⟨a, vs, _, rfl, hs, rs⟩ := R1.any e1 r1
        have := allInt_rep e2 rs
        subst this
        refine ⟨a, ns, rfl, hs, ?_⟩
        cases ns with
        | nil => exact o1 α1 H1 _ .refl R1 rfl
        | cons y ys => exact o1 α1 H1 _ .refl R1 rfl
  | _ => exact o1.elim
end
theorem u01 {k : Nat} {A : Around} (r : Room k A) : A.units + 1 < cLine := by have := r.un; omega
/-! ### max of a tuple of ints -/
def rMaxT (K : PySem.W.Frag) : List V → Hp → VK → Prop := fun vs H Q => ∃ (a : Addr) (i : Int) (is : List Int), vs = [V.ref a] ∧ SqT K H a ((i :: is).map V.int) ∧ Q (.int (maxI i is)) H
theorem cr_maxT {X : Cx} (hc : X.calm = true) (hu : X.A.units + 1 < cLine) : CallR X (.builtin "max") (rMaxT X.K) := by
  intro pins s σ H vs us Q I r h
  obtain ⟨a, i, is, rfl, ht, q⟩ := h
  rw [Vals.ref1 r]
  obtain ⟨its, rv, pl, hz⟩ := I.tuple ht
  have nums : PyProof.Rows.IntsAre its.toArray.toList (i :: is) := by simpa using RZ.intsAre_vals rv
  refine PySem.W.max_tuple_datum (α := Int) (x := i) (xs := is) (I.ok.hd hc) pl (PySem.W.HoldAll.of_ints nums) (by show X.A.units + 1 + 0 < cLine; omega) fun n v h' tk hv hh k => ?_
  obtain ⟨t, rfl⟩ := PySem.W.int_of_holds hh
  exact ⟨.int (maxI i is), H, I.kept (t' := tk) k, ⟨t, by rw [maxI_of]⟩, q⟩
def maxTF : List D → Sto → R D
  | [.tup xs], h => match allInt xs with
    | some (i :: is) => .ok (.int (maxI i is)) h
    | _ => .no
  | ds, h => maxF ds h
theorem maxT_ok {X : Cx} : CallN X maxTF (fun xs H Q => ((∃ i j, xs = [.int i, .int j] ∧ Q (.int (if j > i then j else i)) H) ∨ rMax X.K xs H Q) ∨ rMaxT X.K xs H Q) := by
  intro W σ Q α h H ds vs R rs o
  unfold maxTF at o
  split at o
  · rename_i xs
    obtain ⟨v, r, rfl, ⟨a, us, rfl, hs, rx⟩, r2⟩ := rs
    cases r2
    split at o
    · rename_i i is e2
      have := allInt_rep e2 rx
      subst this
      exact .inr ⟨a, i, is, rfl, hs, o α H _ .refl R rfl⟩
    · exact o.elim
  · exact .inl (max_ok W σ Q α h H ds vs R rs o)
theorem minI_of : ∀ (xs : List Int) (x : Int), PySem.W.minOf x xs = minI x xs
  | [], x => rfl
  | y :: ys, x => by
    show PySem.W.minOf (if PySem.W.DatumOrd.lt y x = true then y else x) ys = minI (if y < x then y else x) ys
    rw [minI_of ys]
    have e : (PySem.W.DatumOrd.lt y x = true) = (y < x) := by
      show (decide (y < x) = true) = (y < x)
      simp
    simp only [e]
/-! ### min of a tuple of ints -/
def rMinT (K : PySem.W.Frag) : List V → Hp → VK → Prop := fun vs H Q => ∃ (a : Addr) (i : Int) (is : List Int), vs = [V.ref a] ∧ SqT K H a ((i :: is).map V.int) ∧ Q (.int (minI i is)) H
theorem cr_minT {X : Cx} (hc : X.calm = true) (hu : X.A.units + 1 < cLine) : CallR X (.builtin "min") (rMinT X.K) := by
  intro pins s σ H vs us Q I r h
  obtain ⟨a, i, is, rfl, ht, q⟩ := h
  rw [Vals.ref1 r]
  obtain ⟨its, rv, pl, hz⟩ := I.tuple ht
  have nums : PyProof.Rows.IntsAre its.toArray.toList (i :: is) := by simpa using RZ.intsAre_vals rv
  refine PySem.W.min_tuple_datum (α := Int) (x := i) (xs := is) (I.ok.hd hc) pl (PySem.W.HoldAll.of_ints nums) (by show X.A.units + 1 + 0 < cLine; omega) fun n v h' tk hv hh k => ?_
  obtain ⟨t, rfl⟩ := PySem.W.int_of_holds hh
  exact ⟨.int (minI i is), H, I.kept (t' := tk) k, ⟨t, by rw [minI_of]⟩, q⟩
def minTF : List D → Sto → R D
  | [.tup xs], h => match allInt xs with
    | some (i :: is) => .ok (.int (minI i is)) h
    | _ => .no
  | ds, h => minF ds h
theorem minT_ok {X : Cx} : CallN X minTF (fun xs H Q => ((∃ i j, xs = [.int i, .int j] ∧ Q (.int (if j < i then j else i)) H) ∨ rMin X.K xs H Q) ∨ rMinT X.K xs H Q) := by
  intro W σ Q α h H ds vs R rs o
  unfold minTF at o
  split at o
  · rename_i xs
    obtain ⟨v, r, rfl, ⟨a, us, rfl, hs, rx⟩, r2⟩ := rs
    cases r2
    split at o
    · rename_i i is e2
      have := allInt_rep e2 rx
      subst this
      exact .inr ⟨a, i, is, rfl, hs, o α H _ .refl R rfl⟩
    · exact o.elim
  · exact .inl (min_ok W σ Q α h H ds vs R rs o)
end Ml
/-! The mill, part 24: xs[::-1] of lists and tuples. -/
namespace HT
open PySem PySem.Spec PyProof.Rows
section
variable {prog : Program} {w : World} {A : Around} {E : Value → Shared → Prop} {s : Shared}
theorem places_back (n : Nat) : Builtin.Slice.slicePlaces ((n : Int) - 1) (-1) (-1) = n := by
  unfold Builtin.Slice.slicePlaces
  rw [if_neg (by decide)]
  by_cases c : (n : Int) - 1 > -1
  · rw [if_pos c, show -(-1 : Int) = 1 from rfl, Int.ediv_one]; omega
  · rw [if_neg c]; omega
theorem pick_back (xs : Array Value) : ((List.range xs.size).filterMap fun (k : Nat) => xs[((xs.size : Int) - 1 + (k : Int) * (-1)).toNat]?) = xs.toList.reverse := by
  have e : ∀ k ∈ List.range xs.size, xs[((xs.size : Int) - 1 + (k : Int) * (-1)).toNat]? = xs.toList.reverse[k]? := fun k hk => by
    have hk := List.mem_range.mp hk
    rw [show ((xs.size : Int) - 1 + (k : Int) * (-1)).toNat = xs.size - 1 - k from by omega, List.getElem?_reverse (by simpa using hk)]
    simp
  have cg : ∀ l : List Nat, (∀ k ∈ l, k ∈ List.range xs.size) → (l.filterMap fun (k : Nat) => xs[((xs.size : Int) - 1 + (k : Int) * (-1)).toNat]?) = l.filterMap fun k => xs.toList.reverse[k]? := fun l => by
    induction l with
    | nil => intro _; rfl
    | cons a l ih => intro hl; rw [List.filterMap_cons, List.filterMap_cons, e a (hl a (by simp)), ih fun k hk => hl k (List.mem_cons_of_mem _ hk)]
  rw [cg _ fun _ h => h]
  refine List.ext_getElem? fun i => ?_
  have run : ∀ (l : List Value), (List.range l.length).filterMap (fun k => l[k]?) = l := fun l => by
    induction l with
    | nil => rfl
    | cons a l ih =>
      rw [List.length_cons, List.range_succ_eq_map, List.filterMap_cons]
      simp only [List.getElem?_cons_zero, List.filterMap_map]
      congr 1
  have := run xs.toList.reverse
  rw [List.length_reverse, Array.length_toList] at this
  rw [this]
theorem tuple_back {t sl : Addr} {items : Array Value} {vl vu vs : Value} {Q : Value → Shared → Prop} (ht : IsTup s.heap t items) (hs : s.heap.IsSliceOf sl vl vu vs) (pl : IsPart vl none) (pu : IsPart vu none) (ps : IsPart vs (some (-1))) (hsz : items.size ≤ sizeLine)
    (h : Q (.ref s.heap.objs.size) { s with heap := s.heap.push { cls := .type "tuple", data := .seq items.toList.reverse.toArray } }) : wpAny (model prog w) A (getItem (.ref t) (.ref sl)) Q E s := by
  have room : sizeOk (.seq items.toList.reverse.toArray) := by show items.toList.reverse.toArray.size ≤ sizeLine; simpa using hsz
  obtain ⟨os, hos, hcs, hds⟩ := id hs
  have hTs : s.TypeIs (.ref sl) "slice" := ⟨os, hos, hcs⟩
  unfold getItem; try with_reducible refine wpAny_holding ?_
  first | refine wpAny_bind (wpAny_pure ?_) | skip
  refine wpAny_bind (wpAny_sequenceKey ht.typeIs (by decide) (wpAny_bind (wpAny_callSpecial?_slot (name := Str.ofString "__getitem__") ht.typeIs PyProof.Rows.slot_tuple_getitem (wpAny_call_entry PyProof.Rows.slot_tuple_getitem ht.typeIs entry_tuple_getitem ?_ (args_tuple_getitem _ _)))))
  refine (show wpAny _ _ (Builtin.Tuple.tupleItemsOf (.ref t) >>= _) _ _ s from wpAny_bind (tupleItemsOf_ ht (wpAny_bind (wpAny_typeOf hTs ?_))))
  rw [if_pos (by decide)]
  refine wpAny_bind ?_
  unfold Builtin.Slice.sliceApplied Builtin.Slice.sliceFields
  refine wpAny_bind (wpAny_bind (wpAny_field hos hds (x := vl) rfl (wpAny_bind (wpAny_field hos hds (x := vu) rfl (wpAny_bind (wpAny_field hos hds (x := vs) rfl (wpAny_pure ?_)))))))
  refine wpAny_bind (slicePart_ ps ?_)
  show wpAny _ _ (if ((-1 : Int) == 0) = true then _ else _) _ _ s
  rw [if_neg (by decide)]
  refine wpAny_bind (slicePart_ pl (wpAny_bind (slicePart_ pu (wpAny_bind (wpAny_pure ?_)))))
  show wpAny _ _ (pure (((items.size : Int) - 1), (-1 : Int), Builtin.Slice.slicePlaces ((items.size : Int) - 1) (-1) (-1))) _ _ s
  rw [places_back]
  refine wpAny_pure ?_
  have no : ¬ ((((items.size : Int) - 1) == 0 && (-1 : Int) == 1 && items.size == items.size) = true) := by simp
  show wpAny _ _ (if (((items.size : Int) - 1) == 0 && (-1 : Int) == 1 && items.size == items.size) = true then _ else _) _ _ s
  rw [if_neg no, pick_back]
  first
    | exact wpAny_bind (m := Builtin.Tuple.tupleExact _) (wpAny_newObj_type (wpAny_pure ⟨_, rfl, wpAny_pure h⟩) room)
    | exact wpAny_bind (m := Builtin.Tuple.tupleExact _) (wpAny_newObj_type (wpAny_bind (wpAny_pure (wpAny_pure ⟨_, rfl, wpAny_pure h⟩))) room)
    | exact wpAny_bind (wpAny_bind (m := Builtin.Tuple.tupleExact _) (wpAny_newObj_type (wpAny_pure (wpAny_pure ⟨_, rfl, wpAny_pure h⟩)) room))
    | exact wpAny_bind (wpAny_bind (m := Builtin.Tuple.tupleExact _) (wpAny_newObj_type (wpAny_pure ⟨_, rfl, wpAny_pure h⟩) room))
end
end HT
namespace Ml
open PySem PySem.Spec L2
def tRevA (K : PySem.W.Frag) (te : TE) : TE := fun σ H Q => te σ H fun x H1 => ∃ a xs, x = .ref a ∧ ((SqL K H1 a xs ∧ ∀ p, H1 p = none → Q (.ref p) (upd H1 p (.lst xs.reverse))) ∨ (SqT K H1 a xs ∧ ∀ p, H1 p = none → Q (.ref p) (upd H1 p (.tup xs.reverse))))
open PyProof.Rows in
theorem pe_revA {X : Cx} {e : Expr} {te : TE} {k : Nat} {p1 p2 p3 pos : Pos} (he : PE X e te) : PE X (.Subscript e (.Slice none none (some (.UnaryOp .USub (.Constant (.int 1) k p1) p2)) p3) pos) (tRevA X.K te) := by
  refine ⟨fun pins s σ H Q I h => PyProof.Rows.Subscript_ (thn (he.run pins s σ H _ I h) fun v s1 ⟨x, H1, I1, r1, q1⟩ => ?_)⟩
  obtain ⟨a, xs, ex, q⟩ := q1
  subst ex
  cases r1
  have third : PO X (some (.UnaryOp .USub (.Constant (.int 1) k p1) p2)) (tPart (tUn (rU fun i => .int (-i)) (tC (.int 1)))) := po_some (pe_un un_neg pe_int)
  refine wpAny_Slice (thn (po_none.run pins s1 σ H1 (fun o H2 => o = none ∧ H2 = H1) I1 ⟨rfl, rfl⟩) fun vl s2 ⟨l, H2, I2, pl, el, e2⟩ => ?_)
  subst el e2
  refine thn (po_none.run pins s2 σ H2 (fun o H3 => o = none ∧ H3 = H2) I2 ⟨rfl, rfl⟩) fun vu s3 ⟨u, H3, I3, pu, eu, e3⟩ => ?_
  subst eu e3
  refine thn (third.run pins s3 σ H3 (fun o H4 => o = some (-1) ∧ H4 = H3) I3 ⟨1, rfl, -1, rfl, rfl, rfl⟩) fun vs s4 ⟨o, H4, I4, ps, eo, e4⟩ => ?_
  subst eo e4
  have I5 : Inv X pins σ H4 { s4 with heap := s4.heap.push { cls := .type "slice", data := .fields #[vl, vu, vs] } } := I4.kept (t' := s4.toks) fun b ob z => Heap.get?_push_of_some _ z
  show wpAny (model X.prog X.w) X.A (subscriptTail e (.Slice none none (some (.UnaryOp .USub (.Constant (.int 1) k p1) p2)) p3) (.ref a) (.ref s4.heap.objs.size)) (EP X pins σ Q) X.xe { s4 with heap := s4.heap.push { cls := .type "slice", data := .fields #[vl, vu, vs] } }
  rcases q with ⟨hx, q⟩ | ⟨hx, q⟩
  · obtain ⟨its, r, ht, hz⟩ := I5.list hx
    have hlen := r.length
    refine PyProof.Rows.tail_any (ops := [.ref a, .ref s4.heap.objs.size]) ht.isList.typeIs (PySem.slot_list_getitem.lookup) ?_ (by with_unfolding_all rfl)
    refine wpAny_getItem_list_slice ht.isList (Heap.IsSliceOf.new _ vl vu vs) pl pu ps (by decide) ?_ (by rw [List.size_toArray]; omega)
    rw [PySem.W.krv_pick]
    exact ⟨.ref _, _, I5.laid (t' := s4.toks) (o := .lst xs.reverse) (fun b ob z => Heap.get?_push_of_some _ z) (Nat.le_refl _) ⟨by rw [List.length_reverse]; exact hz, _, 0, r.reverse, Heap.get?_push_size _ rfl⟩, rfl, q _ (I5.hok.fresh (Nat.le_refl _))⟩
  · obtain ⟨its, r, ht, hz⟩ := I5.tuple hx
    have hlen := r.length
    refine PyProof.Rows.tail_any (ops := [.ref a, .ref s4.heap.objs.size]) ht.typeIs (PyProof.Rows.slot_tuple_getitem.lookup) ?_ (by with_unfolding_all rfl)
    refine HT.tuple_back ht (Heap.IsSliceOf.new _ vl vu vs) pl pu ps (by rw [List.size_toArray]; omega) ?_
    exact ⟨.ref _, _, I5.laid (t' := s4.toks) (o := .tup xs.reverse) (fun b ob z => Heap.get?_push_of_some _ z) (Nat.le_refl _) ⟨by rw [List.length_reverse]; exact hz, _, r.reverse, IsTup.new _ _⟩, rfl, q _ (I5.hok.fresh (Nat.le_refl _))⟩
def revX (d : D) (h : Sto) : R D := match d with
  | .ref n => match anyAt h n with
    | some xs => .ok (.ref h.length) (h ++ [.lst xs.reverse])
    | none => .no
  | .tup xs => .ok (.tup xs.reverse) h
  | _ => .no
def mRevX (m : ME) : ME := fun ρ h => (m ρ h).bind revX
theorem Reps.rev {K : PySem.W.Frag} {α : List Addr} {H : Hp} : ∀ {ds : List D} {vs : List V}, Reps K α H ds vs → Reps K α H ds.reverse vs.reverse
  | [], _, r => by cases r; rfl
  | d :: ds, _, ⟨v, r, q, h, t⟩ => by subst q; rw [List.reverse_cons, List.reverse_cons]; exact Reps.append (Reps.rev t) (Reps.one h)
theorem d_revX {X : Cx} {W : WX} {e : Expr} {m : ME} {k : Nat} {p1 p2 p3 pos : Pos} (he : PE X e (tD X W m)) : PE X (.Subscript e (.Slice none none (some (.UnaryOp .USub (.Constant (.int 1) k p1) p2)) p3) pos) (tD X W (mRevX m)) := by
  refine pe_imp (pe_revA he) fun σ H Q x => ?_
  refine tG.step x fun α1 ρ H1 d h1 v R1 E1 r1 o1 => ?_
  cases d with
  | ref n =>
    have o1 : OkG X.K X.mg W σ (Rep X.K) Q α1 H1 (match anyAt h1 n with | some xs => .ok (.ref h1.length) (h1 ++ [.lst xs.reverse]) | none => .no) := o1
    cases e1 : anyAt h1 n with
    | none => rw [e1] at o1; exact o1.elim
    | some xs =>
      rw [e1] at o1
      obtain ⟨a, vs, _, rfl, hs, rs⟩ := R1.any e1 r1
      exact ⟨a, vs, rfl, .inl ⟨hs, fun p hp => o1 (α1 ++ [p]) _ _ (Ext.new hp [p]) (R1.newLst hp (Reps.rev rs)) (fresh_ref R1)⟩⟩
  | tup xs =>
    obtain ⟨a, vs, rfl, hs, rs⟩ := r1
    exact ⟨a, vs, rfl, .inr ⟨hs, fun p hp => o1 α1 _ _ (Ext.newTup hp) (R1.newTup hp) ⟨p, _, rfl, .inl (.inl upd_same), Reps.ext (Ext.newTup hp) _ (Reps.rev rs)⟩⟩⟩
  | _ => exact o1.elim
end Ml
/-! The mill, part 25: xs.pop(i); sorted(xs) of a list of ints. -/
namespace Ml
open PySem PySem.Spec L2
def mPopA (mo me : ME) : ME := fun ρ h => (mo ρ h).bind fun o h1 => match o with
  | .ref n => match lstAt h1 n with
    | some _ => (me ρ h1).bind fun y h2 => match y with
      | .int i => match lstAt h2 n with
        | some xs => if 0 ≤ i ∧ i < 1000000 then (match xs[i.toNat]? with
          | some d => .ok d (h2.set n (.lst (xs.eraseIdx i.toNat)))
          | none => .no) else .no
        | none => .no
      | _ => .no
    | none => .no
  | _ => .no
theorem Reps.erase {K : PySem.W.Frag} {α : List Addr} {H : Hp} : ∀ {ds : List D} {vs : List V} (k : Nat), Reps K α H ds vs → Reps K α H (ds.eraseIdx k) (vs.eraseIdx k)
  | [], _, _, r => by cases r; rfl
  | _ :: _, _, 0, ⟨v, r, q, h, t⟩ => by subst q; exact t
  | _ :: _, _, k + 1, ⟨v, r, q, h, t⟩ => by subst q; exact ⟨v, _, rfl, h, Reps.erase k t⟩
/-- in order, by putting in -/
def insLe (k : Int) : List Int → List Int
  | [] => [k]
  | i :: r => if k ≤ i then k :: i :: r else i :: insLe k r
def sortLe : List Int → List Int
  | [] => []
  | k :: r => insLe k (sortLe r)
theorem insLe_perm (k : Int) : ∀ l : List Int, (insLe k l).Perm (k :: l)
  | [] => List.Perm.refl _
  | i :: r => by
    unfold insLe
    by_cases h : k ≤ i
    · rw [if_pos h]
    · rw [if_neg h]
      exact ((insLe_perm k r).cons i).trans (List.Perm.swap k i r)
theorem insLe_le (k : Int) : ∀ {l : List Int}, l.Pairwise (· ≤ ·) → (insLe k l).Pairwise (· ≤ ·)
  | [], _ => List.pairwise_singleton _ _
  | i :: r, h => by
    unfold insLe
    have h1 := List.pairwise_cons.mp h
    by_cases q : k ≤ i
    · rw [if_pos q]
      refine List.pairwise_cons.mpr ⟨fun j hj => ?_, h⟩
      rcases List.mem_cons.mp hj with rfl | hj
      · exact q
      · exact Int.le_trans q (h1.1 j hj)
    · rw [if_neg q]
      refine List.pairwise_cons.mpr ⟨fun j hj => ?_, insLe_le k h1.2⟩
      rcases List.mem_cons.mp ((insLe_perm k r).mem_iff.mp hj) with rfl | hj
      · omega
      · exact h1.1 j hj
theorem sortLe_perm : ∀ l : List Int, (sortLe l).Perm l
  | [] => List.Perm.refl _
  | k :: r => (insLe_perm k _).trans ((sortLe_perm r).cons k)
theorem sortLe_le : ∀ l : List Int, (sortLe l).Pairwise (· ≤ ·)
  | [] => List.Pairwise.nil
  | k :: r => insLe_le k (sortLe_le r)
theorem sorted_unique {a b : List Int} (p : a.Perm b) (ha : a.Pairwise (· ≤ ·)) (hb : b.Pairwise (· ≤ ·)) : a = b := p.eq_of_pairwise (fun x y _ _ h1 h2 => Int.le_antisymm h1 h2) ha hb
/-- sorted of a list of ints -/
def sortF : List D → Sto → R D
  | [.ref n], h => match lstAt h n with
    | some xs => match allInt xs with
      | some is => .ok (.ref h.length) (h ++ [.lst ((sortLe is).map D.int)])
      | none => .no
    | none => .no
  | _, _ => .no
section
variable {X : Cx}
theorem sortF_ok : CallN X sortF (rSortedI X.K) := by
  intro W σ Q α h H ds vs R rs o
  unfold sortF at o
  split at o
  · rename_i n
    obtain ⟨v, r, rfl, rx, rn⟩ := rs
    cases rn
    cases e1 : lstAt h n with
    | none => rw [e1] at o; exact o.elim
    | some xs =>
      rw [e1] at o
      dsimp only at o
      cases e2 : allInt xs with
      | none => rw [e2] at o; exact o.elim
      | some is =>
        rw [e2] at o
        obtain ⟨a, us, ha, rfl, hA, rx2⟩ := R.lst e1 rx
        have := allInt_rep e2 rx2
        subst this
        refine ⟨a, is, rfl, SqL.of hA, fun ys p hp hs hn => ?_⟩
        have e : ys = sortLe is := sorted_unique (hp.trans (sortLe_perm is).symm) hs (sortLe_le is)
        subst e
        exact o (α ++ [p]) _ (.ref p) (Ext.new hn [p]) (R.newLst hn (reps_ints _)) (fresh_ref R)
  · exact o.elim
end
section
variable {X : Cx} {W : WX}
theorem d_popA {o e : Expr} {mo me : ME} {apos cpos : Pos} (ho : PE X o (tD X W mo)) (he : PE X e (tD X W me))
    (hbase : attributeBase o "pop" X.env (eval o X.env) = eval o X.env := by rfl)
    (hfew : ((backTo cpos (starEach [e] X.env)).all (fun x => !x.1) && (backToKw cpos (keywordEach [] X.env)).all (fun x => x.1.isSome)
      && decide (([e] : List Expr).length + ([] : List Keyword).length + (if ([] : List Keyword).isEmpty then 0 else 1) < 30)) = true := by rfl)
    (hline : (apos.endLine == cpos.line) = true := by rfl) (hs : starEach [e] X.env = (false, eval e X.env) :: starEach [] X.env := by rfl) (hplain : (backTo cpos (starEach [] X.env)).any (·.1) = false := by rfl) :
    PE X (.Call (.Attribute o "pop" apos) [e] [] cpos) (tD X W (mPopA mo me)) := by
  refine pe_imp (pe_bm PySem.F.plainAttrs_list PySem.F.slot_list_pop PySem.F.type_list_pop mt_popAt ho (pa_cons he pa_nil hs) hbase hfew hline hs hplain) fun σ H Q x => ?_
  refine tG.step x fun α1 ρ H1 d h1 v R1 E1 r1 o1 => ?_
  cases d with
  | ref n =>
    dsimp only at o1
    cases e1 : lstAt h1 n with
    | none => rw [e1] at o1; exact o1.elim
    | some ys =>
      rw [e1] at o1
      dsimp only at o1
      obtain ⟨a, vs, ha, rfl, hA, rs⟩ := R1.lst e1 r1
      refine ⟨.inl ⟨rfl, _, SqL.of hA⟩, α1, ρ, h1, R1, E1, OkG.bind o1 fun α2 H2 y h2 u e2 R2 r2 o2 => ?_⟩
      cases y with
      | int i =>
        cases (show u = .int i from r2)
        dsimp only at o2
        cases e3 : lstAt h2 n with
        | none => rw [e3] at o2; exact o2.elim
        | some xs =>
          rw [e3] at o2
          dsimp only at o2
          by_cases hz : 0 ≤ i ∧ i < 1000000
          · rw [if_pos hz] at o2
            cases e4 : xs[i.toNat]? with
            | none => rw [e4] at o2; exact o2.elim
            | some d =>
              rw [e4] at o2
              dsimp only at o2
              obtain ⟨b, us, hb, hab, hB, rx⟩ := R2.lst e3 (Rep.ext e2 _ r1)
              cases hab
              obtain ⟨w, hw, rw'⟩ := Reps.get rx e4
              obtain ⟨R3, e5⟩ := R2.write (lstAt_of e3) hb (Reps.erase i.toNat rx)
              have hlt := (List.getElem?_eq_some_iff.mp hw).1
              have l1 := Reps.length rx
              have hx : ixN us.length i = some i.toNat := by
                unfold ixN
                rw [if_pos hz.1, if_pos (by omega)]
              exact ⟨a, us, i, i.toNat, w, rfl, rfl, hB, by omega, by omega, (ixN_seq hx).1, hw, o2 α2 _ _ e5 R3 (Rep.ext e5 d rw')⟩
          · rw [if_neg hz] at o2
            exact o2.elim
      | _ => exact o2.elim
  | _ => exact o1.elim
end
end Ml
/-! The mill, part 26: `wp` for what ends with an exception. -/
namespace Ml
open PySem PySem.Spec L2
def wx {β : Type} (r : R β) (E : XD → Sto → Prop) : Prop := ∃ e h, r = .ex e h ∧ E e h
def wxS (o : O) (E : XD → Sl → Sto → Prop) : Prop := ∃ e ρ h, o = .ex e ρ h ∧ E e ρ h
section
variable {h : Sto} {ρ : Sl} {E : XD → Sto → Prop} {F : XD → Sl → Sto → Prop}
theorem wx_bind1 {β γ : Type} {r : R β} {f : β → Sto → R γ} (x : wp r fun a h => wx (f a h) E) : wx (r.bind f) E := by
  obtain ⟨a, h1, rfl, y⟩ := x
  exact y
theorem wx_bind2 {β γ : Type} {r : R β} {f : β → Sto → R γ} (x : wx r E) : wx (r.bind f) E := by
  obtain ⟨e, h1, rfl, y⟩ := x
  exact ⟨e, h1, rfl, y⟩
theorem wxS_into1 {β : Type} {r : R β} {k : β → Sto → O} (x : wp r fun a h => wxS (k a h) F) : wxS (r.into ρ k) F := by
  obtain ⟨a, h1, rfl, y⟩ := x
  exact y
theorem wxS_into2 {β : Type} {r : R β} {k : β → Sto → O} (x : wx r fun e h => F e ρ h) : wxS (r.into ρ k) F := by
  obtain ⟨e, h1, rfl, y⟩ := x
  exact ⟨e, ρ, h1, rfl, y⟩
theorem wxS_seq1 {m k : MS} (x : wo (m ρ h) (fun ρ1 h1 => wxS (k ρ1 h1) F) fun _ _ => False) : wxS (mSeqS m k ρ h) F := by
  rcases x with ⟨ρ1, h1, e, y⟩ | ⟨d, h1, e, y⟩
  · unfold mSeqS; rw [e]; exact y
  · exact y.elim
theorem wxS_seq2 {m k : MS} (x : wxS (m ρ h) F) : wxS (mSeqS m k ρ h) F := by
  obtain ⟨e, ρ1, h1, e1, y⟩ := x
  unfold mSeqS; rw [e1]; exact ⟨e, ρ1, h1, rfl, y⟩
theorem wxS_if {t : MT} {m k : MS} (x : wp (t ρ h) fun b h1 => wxS ((if b then m else k) ρ h1) F) : wxS (mIfS t m k ρ h) F := by
  obtain ⟨b, h1, e, y⟩ := x
  unfold mIfS; rw [e]
  cases b <;> exact y
theorem wxS_raise0 {x : Str} (y : F ⟨x, []⟩ ρ h) : wxS (mRaise0 x ρ h) F := ⟨_, _, _, rfl, y⟩
theorem wx_run {n : Nat} {m : MS} {ds : List D} (x : wxS (m (ds.map some ++ List.replicate (n - ds.length) none) h) fun e _ h => E e h) : wx (runM n m ds h) E := by
  obtain ⟨e, ρ1, h1, e1, y⟩ := x
  unfold runM; rw [e1]; exact ⟨e, h1, rfl, y⟩
theorem wo_try {mb : MS} {l : MCl} {Pn : Sl → Sto → Prop} {Q : D → Sto → Prop} (x : wxS (mb ρ h) fun e ρ1 h1 => wo (runCl e ρ1 h1 l) Pn Q) : wo (mTryN mb l ρ h) Pn Q := by
  obtain ⟨e, ρ1, h1, e1, y⟩ := x
  unfold mTryN; rw [e1]; exact y
theorem wo_try0 {mb : MS} {l : MCl} {Pn : Sl → Sto → Prop} {Q : D → Sto → Prop} (x : wo (mb ρ h) Pn Q) : wo (mTryN mb l ρ h) Pn Q := by
  rcases x with ⟨ρ1, h1, e, y⟩ | ⟨d, h1, e, y⟩
  · unfold mTryN; rw [e]; exact .inl ⟨ρ1, h1, rfl, y⟩
  · unfold mTryN; rw [e]; exact .inr ⟨d, h1, rfl, y⟩
end
end Ml
/-! The mill, part 27: x in range(n); in a suite: x = a if isinstance(err, B) else b. -/
namespace Ml
open PySem PySem.Spec L2
def inRgD : D → D → Sto → R D
  | .int i, .int n, h => .ok (.bl (decide (0 ≤ i ∧ i < n))) h
  | _, _, _ => .no
/-- is True, is False: of what is a bool or an int -/
def isBD : D → D → Sto → R D
  | .bl a, .bl b, h => .ok (.bl (decide (a = b))) h
  | .int _, .bl _, h => .ok (.bl false) h
  | _, _, _ => .no
def rIsBI : R2 := fun x y H Q => ∃ b : Bool, y = V.bl b ∧ ((∃ a : Bool, x = V.bl a ∧ Q (.bl (decide (a = b))) H) ∨ ∃ i : Int, x = V.int i ∧ Q (.bl false) H)
theorem op_isBI {X : Cx} : OpR X (compareOp .Is) rIsBI := by
  intro pins s σ H x y v u Q I rx ry h
  obtain ⟨b, rfl, ⟨a, rfl, q⟩ | ⟨i, rfl, q⟩⟩ := h
  · exact op_is_bl pins s σ H _ _ v u Q I rx ry ⟨a, b, rfl, rfl, q⟩
  · obtain ⟨t, et⟩ := rx
    subst et
    cases (show u = Value.bool b from ry)
    exact wpAny_is_other rfl (fun z => nomatch z) ⟨.bl false, H, I, rfl, q⟩
theorem isB_ok {X : Cx} : Op2 X isBD rIsBI := by
  intro W σ Q α h H x y u v R r1 r2 o
  cases x with
  | bl a =>
    cases y with
    | bl b =>
      cases (show u = .bl a from r1)
      cases (show v = .bl b from r2)
      exact ⟨b, rfl, .inl ⟨a, rfl, o α H _ .refl R rfl⟩⟩
    | _ => exact o.elim
  | int i =>
    cases y with
    | bl b =>
      cases (show u = .int i from r1)
      cases (show v = .bl b from r2)
      exact ⟨b, rfl, .inr ⟨i, rfl, o α H _ .refl R rfl⟩⟩
    | _ => exact o.elim
  | _ => exact (by cases y <;> exact o.elim)
section
variable {X : Cx} {W : WX} {pos p pos1 : Pos}
def rRg1 : List V → Hp → VK → Prop := fun vs H Q => ∃ i, vs = [V.int i] ∧ ∀ q, H q = none → Q (.ref q) (upd H q (.rng 0 i))
theorem cr_rg1 : CallR X (.type "range") rRg1 := fun pins s σ H vs us Q I rv hv => by
  obtain ⟨i, e, k⟩ := hv
  subst e
  obtain ⟨u, eu, ri⟩ := vals1 rv
  obtain ⟨t, et⟩ := ri
  subst eu et
  refine call_range_1 ⟨.ref s.heap.objs.size, upd H s.heap.objs.size (.rng 0 i), ?_, rfl, k _ (I.hok.fresh (Nat.le_refl _))⟩
  exact I.laid (t' := s.toks + 1 + 1) (fun _ _ e => Heap.get?_push_of_some _ e) (Nat.le_refl _) ⟨s.toks, t, s.toks + 1, Heap.get?_push_size _ rfl⟩
theorem inRg_tr {m k : ME} {σ : L2.St} {H : Hp} {Q : VK} (x : tD X W (mBin inRgD m k) σ H Q) :
    tOp (fun x y H Q => ∃ i a lo hi, x = V.int i ∧ y = V.ref a ∧ H a = some (.rng lo hi) ∧ Q (.bl (decide (lo ≤ i ∧ i < hi))) H) (tD X W m) (tCB rRg1 (tCons (tD X W k) tNil)) σ H Q := by
  refine tG.step x fun α1 ρ H1 d1 h1 v1 R1 E1 r1 o1 => ?_
  refine ⟨α1, ρ, h1, R1, E1, OkG.bind o1 fun α2 H2 d2 h2 v2 e2 R2 r2 o2 => ?_⟩
  have r1' := Rep.ext e2 _ r1
  cases d1 with
  | int i => cases d2 with
    | int n =>
      cases r1'
      cases r2
      exact ⟨n, rfl, fun q hq => ⟨i, q, 0, n, rfl, rfl, upd_same, o2 α2 (upd H2 q (.rng 0 n)) (.bl (decide ((0 : Int) ≤ i ∧ i < n))) (Ext.newTup hq) (R2.newTup hq) rfl⟩⟩
    | _ => exact o2.elim
  | _ => exact (by cases d2 <;> exact o2.elim)
theorem d_inRg {a b : Expr} {m k : ME} (hg : Gl X "range") (hm : X.mg "range" = none) (ha : PE X a (tD X W m)) (hb : PE X b (tD X W k))
    (he : starEach [b] X.env = (false, eval b X.env) :: starEach [] X.env := by rfl) (hpl : (backTo pos1 (starEach [] X.env)).any (·.1) = false := by rfl) (hbm : behindInMarks .In (.Call (.Name "range" p) [b] [] pos1) = false := by rfl) :
    PE X (.Compare a [.In] [.Call (.Name "range" p) [b] [] pos1] pos) (tD X W (mBin inRgD m k)) :=
  pe_imp (pe_cmpR op_in_rng ha (pe_callTy cr_rg1 hg hm PyProof.Rows.boot_range (pa_cons hb pa_nil he) (by decide) (by decide) he hpl) hbm) fun _ _ _ x => inRg_tr x
theorem t_inRg {a b : Expr} {m k : ME} (hg : Gl X "range") (hm : X.mg "range" = none) (ha : PE X a (tD X W m)) (hb : PE X b (tD X W k))
    (he : starEach [b] X.env = (false, eval b X.env) :: starEach [] X.env := by rfl) (hpl : (backTo pos1 (starEach [] X.env)).any (·.1) = false := by rfl) (hbm : behindInMarks .In (.Call (.Name "range" p) [b] [] pos1) = false := by rfl) :
    PT X (.Compare a [.In] [.Call (.Name "range" p) [b] [] pos1] pos) (tDt X W (mTB (mBin inRgD m k))) := by
  refine pt_imp (pt_cmpR op_in_rng ha (pe_callTy cr_rg1 hg hm PyProof.Rows.boot_range (pa_cons hb pa_nil he) (by decide) (by decide) he hpl) hbm) fun σ H Q x => ?_
  obtain ⟨α, ρ, h, R, E, o⟩ := x
  refine inRg_tr (Q := fun x H' => ∃ k, x = .bl k ∧ Q k H') ⟨α, ρ, h, R, E, ?_⟩
  refine OkG.bind o fun α1 H1 b h1 c e R1 r1 o1 => ?_
  cases b with
  | bl b =>
    cases (show c = .bl b from r1)
    exact ⟨b, rfl, o1 α1 H1 b .refl R1 rfl⟩
  | _ => exact o1.elim
end
/-! ### a suite: x = t1 if isinstance(err, B) else t2, where it is one -/
def suIf (k : Nat) (t : Str) : XD → MS := fun _ ρ h => .nx (ρ.set k (some (.str t))) h
section
variable {X : Cx} {x n y : Str} {i : Nat} {a C : Addr} {oe : Obj} {cls : Value} {d : Option Addr} {pn : List (Addr × Obj)} {pos p1 p2 p3 pos' : Pos} {T : String} {b : Str}
theorem su_if (k : Nat) {t t2 : Str} {j1 j2 : Nat} {q1 q2 q3 pc : Pos} (hk : PySem.W.kitOne X.K (.ref C) (.type T) = some true) (hz : Zc cls d oe) (hi : X.N[i]? = some n) (hv : Vis X.env.scope n)
    (gi : Gl X "isinstance") (mi : X.mg "isinstance" = none) (gb : Gl X b) (mb : X.mg b = none) (bo : bootBuiltins b = some (.type T)) (hnb : b ≠ "__name__") (hdb : (b == ("__debug__" : Str)) = false) (hcl : cls = .ref C)
    (hN : X.N.Nodup) (hky : X.N[k]? = some y) (hx : Loc X.env.scope y) (hfn : X.env.scope.names.lookup y = some .local)
    (hd : (n == ("__debug__" : Str)) = false := by decide) (hcd : (n == ("__classdict__" : Str)) = false := by decide)
    (h1 : starEach [.Name n p1, .Name b p2] (X.suite a ((a, oe) :: pn)).env = (false, eval (.Name n p1) (X.suite a ((a, oe) :: pn)).env) :: starEach [.Name b p2] (X.suite a ((a, oe) :: pn)).env := by rfl)
    (h2 : starEach [.Name b p2] (X.suite a ((a, oe) :: pn)).env = (false, eval (.Name b p2) (X.suite a ((a, oe) :: pn)).env) :: starEach [] (X.suite a ((a, oe) :: pn)).env := by rfl) (h3 : (backTo pc (starEach [.Name b p2] (X.suite a ((a, oe) :: pn)).env)).any (·.1) = false := by rfl)
    (hs : swapsWith (.IfExp (.Call (.Name "isinstance" p3) [.Name n p1, .Name b p2] [] pc) (.Constant (.str t) j1 q1) (.Constant (.str t2) j2 q2) q3) (some (.Name y pos')) pos.line X.env = pure false := by rfl) :
    PSs (X.suite a ((a, oe) :: pn)) [.Assign [.Name y pos'] (.IfExp (.Call (.Name "isinstance" p3) [.Name n p1, .Name b p2] [] pc) (.Constant (.str t) j1 q1) (.Constant (.str t2) j2 q2) q3) pos] (tSu X.K X.mg x i (suIf k t) a cls d) := by
  subst hcl
  refine pss_imp (pss_one (ps_set (X := X.suite a ((a, oe) :: pn)) (i := k) hN hky hx (pe_ifExp (pt_val (pe_callB (X := X.suite a ((a, oe) :: pn)) (call_isY (C := C) (T := T) hk hz) gi mi PyProof.Rows.boot_isinstance
    (pa_cons (pe_var (X := X.suite a ((a, oe) :: pn)) hi hv hd hcd) (pa_cons (pe_bltn (X := X.suite a ((a, oe) :: pn)) (v := .ty T) gb mb bo rfl hnb hdb) pa_nil h2) h1) (by decide) (by decide) h1 h3)) pe_str pe_str) hs (hf := .inr hfn))) fun Dn σ H q => ?_
  obtain ⟨α, ρ, h, e, R, E, hs, rx, hc, o⟩ := q
  refine ⟨.ref a, hs, rfl, true, rfl, ?_⟩
  exact o _ _ _ .refl R (E.set k rfl)
end
end Ml
/-! The mill, part 28: o[i], x = a, b; try with several clauses «except C» without names. -/
namespace Ml
open PySem PySem.Spec L2
def mAsgSN (mo mi : ME) (k : Nat) (m : ME) : MS := fun ρ h => (m ρ h).into ρ fun d h1 => match d with
  | .tup [a, b] => (mo ρ h1).into ρ fun o h2 => (mi ρ h2).into ρ fun i h3 => match setF o i a h3 with
    | some h4 => .nx (ρ.set k (some b)) h4
    | none => .no
  | _ => .no
section
variable {X : Cx} {W : WX} {pos : Pos}
theorem s_asgSN (k : Nat) {o i e : Expr} {x : Str} {mo mi m : ME} {tpos px pt : Pos} {kt : Nat} (hc : X.calm = true) (hN : X.N.Nodup) (ho : PE X o (tD X W mo)) (hi : PE X i (tD X W mi)) (he : PE X e (tD X W m))
    (ha : ∀ v, assign (.Subscript o i tpos) X.env v = (do
      let ov ← holding [v] (eval o X.env)
      let iv ← holding [v, ov] (eval i X.env)
      standAt tpos
      holding [v, ov, iv] (setItem ov iv v)
      release [v, ov, iv] []) := by intro _; rfl)
    (hk : X.N[k]? = some x := by rfl) (hx : Loc X.env.scope x := by first | exact Or.inl rfl | exact Or.inr rfl) (hf : X.fn x = true ∨ X.env.scope.names.lookup x = some .local := by first | exact .inl rfl | exact .inr rfl)
    (h3 : (assignEach [.Name x px] X.env).map (·.2) = assign (.Name x px) X.env :: (assignEach [] X.env).map (·.2) := by rfl)
    (h2 : (assignEach [.Subscript o i tpos, .Name x px] X.env).map (·.2) = assign (.Subscript o i tpos) X.env :: (assignEach [.Name x px] X.env).map (·.2) := by rfl)
    (hn : (assignEach [.Subscript o i tpos, .Name x px] X.env).length = 2 := by rfl) (hst : (assignEach [.Subscript o i tpos, .Name x px] X.env).findIdx? (·.1) = none := by rfl)
    (hs : swapsWithSole [.Tuple [.Subscript o i tpos, .Name x px] kt pt] e pos.line X.env = pure false := by rfl) (hw : swappedStores [.Tuple [.Subscript o i tpos, .Name x px] kt pt] e X.env = pure none := by rfl)
    (h1 : (assignEach [.Tuple [.Subscript o i tpos, .Name x px] kt pt] X.env).map (·.2) = [assign (.Tuple [.Subscript o i tpos, .Name x px] kt pt) X.env] := by rfl) :
    PS X (.Assign [.Tuple [.Subscript o i tpos, .Name x px] kt pt] e pos) (tSt X W (mAsgSN mo mi k m)) := by
  refine ps_imp (ps_asg he (pg_tup hc (pgs_cons (pg_sub ho hi set_list ha) (pgs_cons (pg_name hN hk hx hf) pgs_nil h3) h2) hn hst) hs hw h1) fun Dn σ H q => ?_
  refine tSt.step q fun α1 ρ H1 d h1 v R1 E1 r1 o1 => ?_
  match d, r1, o1 with
  | .tup [a, b], r1, o1 =>
    obtain ⟨ad, vs, rfl, hs, rs⟩ := r1
    obtain ⟨va, vr, rfl, ra, vb, vr2, rfl, rb, rfl⟩ := rs
    refine ⟨ad, _, rfl, hs, rfl, va, _, rfl, ?_⟩
    refine ⟨α1, ρ, h1, R1, E1, OkS.into o1 E1 fun α2 H2 d2 h2 v2 e2 R2 r2 o2 => ?_⟩
    refine ⟨α2, ρ, h2, R2, E1.ext e2, OkS.into o2 (E1.ext e2) fun α3 H3 d3 h3 v3 e3 R3 r3 o3 => ?_⟩
    cases q : setF d2 d3 a h3 with
    | none => rw [q] at o3; exact o3.elim
    | some h4 =>
      rw [q] at o3
      exact setF_of R3 (Rep.ext e3 d2 r2) r3 (Rep.ext e3 a (Rep.ext e2 a ra)) q fun H' e4 R4 => ⟨vb, [], rfl, rfl, o3 α3 _ H' e4 R4 ((((E1.ext e2).ext e3).ext e4).set k (Rep.ext e4 b (Rep.ext e3 b (Rep.ext e2 b rb))))⟩
  | .tup [], _, o1 => exact o1.elim
  | .tup [_], _, o1 => exact o1.elim
  | .tup (_ :: _ :: _ :: _), _, o1 => exact o1.elim
  | .non, _, o1 => exact o1.elim
  | .bl _, _, o1 => exact o1.elim
  | .int _, _, o1 => exact o1.elim
  | .str _, _, o1 => exact o1.elim
  | .ty _, _, o1 => exact o1.elim
  | .ref _, _, o1 => exact o1.elim
end
/-! ### clauses without names -/
def wClO (K : PySem.W.Frag) (Wout : WX) (D : Ends) : List (Value × TS) → WX
  | [] => Wout
  | (c, ts) :: r => fun cls d σ H => ∃ b, PySem.W.exmOne K cls c = some b ∧ (b = true → ts D σ H) ∧ (b = false → wClO K Wout D r cls d σ H)
inductive ClsO (X : Cx) : List ExceptHandler → List (Value × TS) → Prop
  | nil : ClsO X [] []
  | cons {x : Str} {c : Value} {ts : TS} {s0 : Stmt} {ss : List Stmt} {np hp : Pos} {hds : List ExceptHandler} {l : List (Value × TS)} (nm : Names X x c)
      (su : ∀ (a : Addr) (oe : Obj) (pn : List (Addr × Obj)), PSs (X.suite a ((a, oe) :: pn)) (s0 :: ss) ts) (rest : ClsO X hds l) :
      ClsO X (.ExceptHandler (some (.Name x np)) none (s0 :: ss) hp :: hds) ((c, ts) :: l)
section
variable {X : Cx} {body : List Stmt} {hd0 : ExceptHandler} {hds : List ExceptHandler} {l : List (Value × TS)} {pos : Pos} {tb : WX → TS} {Wout : WX}
theorem ps_try_clO (top : X.stack = X.env :: X.outer) (frm : X.env.frame = some X.env.locals) (tk : Takes X Wout)
    (bd : ∀ (W : WX) (pn : List (Addr × Obj)) (xe : Value → Shared → Prop), Takes (X.tr pn xe) W → PassesOwn (model X.prog X.w) X.A X.env xe → PSs (X.tr pn xe) body (tb W)) (cl : ClsO X (hd0 :: hds) l) :
    PS X (.Try body (hd0 :: hds) [] [] pos) (fun D σ H => tb (wClO X.K Wout D l) D σ H) := by
  refine ⟨fun pins s σ H D I run => wpAny_Try_except ?_⟩
  have fine := I.ok
  have stk : X.A.frames = some (X.env :: X.outer) := by rw [fine.frames, top]
  let catch_ : Value → Shared → Prop := fun e s1 => wpAny (model X.prog X.w) X.A (noteFrame e X.env) (fun _ s2 => wpAny (model X.prog X.w) X.A (setFlight e none) (fun _ s3 => wpAny (model X.prog X.w) X.A (handleBy e X.env (hd0 :: hds)) (SP X pins D) X.xe s3) X.xe s2) X.xe s1
  have taken : Takes (X.tr (X.pn ++ pins) catch_) (wClO X.K Wout D l) := fun u s' out => by
    obtain ⟨a, G, sI, pins', σ', H', cls, d, rfl, J', bare, up, sky, na, os, ag, w⟩ := out
    have J : L2.Inv X pins σ' H' sI := J'.ofTry fine
    have sky2 : Sky G (X.env :: X.outer) a (Zc cls d) X.env.locals s'.heap := by rw [← top]; exact sky
    show wpAny (model X.prog X.w) X.A (noteFrame (.ref a) X.env) _ _ _
    refine Sky.land Zc.steady stk frm sky2 fun g3 fly3 more3 => ?_
    have J3 : L2.Inv X pins σ' H' { s' with heap := g3 } := J.landed bare fly3.1 (up.trans more3) os ag
    obtain ⟨o3, v3, at3, z3, f3⟩ := fly3.there
    have alien : a ∉ frs (X.env :: X.outer) := fun hm => by
      obtain ⟨_, o', e', nf⟩ := fly3.2.2.1.mem hm
      rw [at3] at e'; cases e'
      exact nf _ f3
    have nL : a ≠ X.env.locals := fun z => alien (List.mem_filterMap.mpr ⟨X.env, List.mem_cons_self, by rw [frm, z]⟩)
    have nF : a ∉ X.fs := fun hm => by
      obtain ⟨e, he, q⟩ := List.mem_filterMap.mp hm
      exact alien (List.mem_filterMap.mpr ⟨e, List.mem_cons_of_mem _ he, q⟩)
    have S3 := J3.suite at3 f3 na nL nF
    have walk : ∀ {hs' : List ExceptHandler} {l' : List (Value × TS)}, ClsO X hs' l' → wClO X.K Wout D l' cls d σ' H' → wpAny (model X.prog X.w) X.A (handleBy (.ref a) X.env hs') (SP X pins D) X.xe { s' with heap := g3 } := by
      intro hs' l' ok
      induction ok with
      | nil =>
        intro w
        refine wpAny_handleBy_nil ?_
        obtain ⟨_, _, _, oe, vs, T, oT, ts', he, hz, hd, h1, hr⟩ := id fly3
        unfold PySem.passOn
        refine wpAny_bind (wpAny_field he hd h1 ?_)
        rw [if_neg (by simp : ¬ ((Value.ref T == Value.none) = true))]
        have on : wpAny (model X.prog X.w) X.A (setFlight (.ref a) X.env.frame) (fun _ s4 => wpAny (model X.prog X.w) X.A (throw (.ref a) : Sem Flow) (SP X pins D) X.xe s4) X.xe { s' with heap := g3 } := by
          rw [frm]
          exact HandSPX.setFlight_upZ fly3 fun g4 held4 more4 => wpAny_throw (tk _ _ ⟨a, G, sI, pins, σ', H', cls, d, rfl, J, bare, (up.trans more3).trans more4, .inr (.inr (by rw [top]; exact held4)), na, os, ag, w⟩)
        first
          | exact wpAny_bind (wpAny_pure (wpAny_bind on))
          | exact wpAny_bind on
      | @cons x c ts s0 ss np hp hds' l' nm su rest ih =>
        intro w
        obtain ⟨b, is, yes, no⟩ := w
        refine wpAny_handleBy_cons (codeAny_handlers_test ?_) (by intro q; cases q)
        have typ : PySem.W.Looks (model X.prog X.w) g3 (typeOf (.ref a)) cls := fun A Q E s k q => wpAny_typeOf_ref (k _ _ at3) (by rw [z3.1]; exact q)
        have mat := PySem.W.exm_one (M := model X.prog X.w) J3.kIn typ is
        have name : ∀ {Q : Value → Shared → Prop} {E : Value → Shared → Prop}, Q c { s' with heap := g3 } → wpAny (model X.prog X.w) (X.A.mark (some (.ref a))) (eval (.Name x np) X.env) Q E { s' with heap := g3 } := fun q => by
          obtain ⟨hg, dbg, m | ⟨m, v, nn⟩⟩ := nm
          · exact ld_glob (X := X.suite a ((a, o3) :: (X.pn ++ pins))) S3 hg m q dbg
          · exact ld_blt (X := X.suite a ((a, o3) :: (X.pn ++ pins))) S3 hg m v q nn dbg
        refine name (mat.here ?_)
        cases b with
        | false => exact ih (no rfl)
        | true =>
          refine codeAny_handlers_suite ?_
          refine HandSPX.lands_againZ fly3 fun g4 fly4 more4 => ?_
          have J4 : L2.Inv X pins σ' H' { s' with heap := g4 } := J.landed bare fly4.1 ((up.trans more3).trans more4) os ag
          obtain ⟨o4, v4, at4, z4, f4⟩ := fly4.there
          have S4 := J4.suite at4 f4 na nL nF
          refine wpAny_mono ((su a o4 (X.pn ++ pins)).run [] _ _ H' _ S4 (yes rfl)) (fun f s6 fin => ?_) (fun _ _ z => False.elim z)
          cases f with
          | ret u => obtain ⟨v6, σ6, H6, S6, r6, q6⟩ := fin; exact ⟨_, _, _, S6.unsuite fine, r6, q6⟩
          | next => obtain ⟨σ6, H6, S6, q6⟩ := fin; exact ⟨_, _, S6.unsuite fine, q6⟩
          | brk => obtain ⟨σ6, H6, S6, q6⟩ := fin; exact ⟨_, _, S6.unsuite fine, q6⟩
          | cont => obtain ⟨σ6, H6, S6, q6⟩ := fin; exact ⟨_, _, S6.unsuite fine, q6⟩
    exact walk cl w
  refine wpAny_mono ((bd (wClO X.K Wout D l) (X.pn ++ pins) catch_ taken PassesOwn.looking).run [] s σ H D (I.toTry _) run) (fun f s1 fin => ?_) (fun e s1 he => he)
  cases f with
  | ret u => obtain ⟨v, σ', H', J', r, q⟩ := fin; exact ⟨v, σ', H', J'.ofTry fine, r, q⟩
  | next => obtain ⟨σ', H', J', q⟩ := fin; exact wpAny_execs_nil ⟨σ', H', J'.ofTry fine, q⟩
  | brk => obtain ⟨σ', H', J', q⟩ := fin; exact ⟨σ', H', J'.ofTry fine, q⟩
  | cont => obtain ⟨σ', H', J', q⟩ := fin; exact ⟨σ', H', J'.ofTry fine, q⟩
end
/-- the clauses: class's name, what its suite does -/
def runClO (e : XD) (ρ : Sl) (h : Sto) : List (Str × MS) → O
  | [] => .no
  | (c, su) :: r => if e.cls = c then su ρ h else runClO e ρ h r
def mTryOs (mb : MS) (l : List (Str × MS)) : MS := fun ρ h => match mb ρ h with
  | .ex e ρ1 h1 => runClO e ρ1 h1 l
  | o => o
inductive ClNO (X : Cx) (W : WX) : List Addr → List (Str × MS) → List ExceptHandler → Prop
  | nil : ClNO X W [] [] []
  | cons {x : Str} {C : Addr} {su : MS} {s0 : Stmt} {ss : List Stmt} {np hp : Pos} {Cs : List Addr} {l : List (Str × MS)} {hds : List ExceptHandler} (hg : Gl X x) (hdb : (x == ("__debug__" : Str)) = false) (hm : X.mg x = some (.ref C))
      (hex : PySem.W.exmOne X.K (.ref C) (.ref C) = some true) (apart : ∀ c su', (c, su') ∈ l → ∃ C', X.mg c = some (.ref C') ∧ PySem.W.exmOne X.K (.ref C') (.ref C) = some false)
      (ok : ∀ (a : Addr) (oe : Obj) (pn : List (Addr × Obj)), PSs (X.suite a ((a, oe) :: pn)) (s0 :: ss) (tSt (X.suite a ((a, oe) :: pn)) W su)) (rest : ClNO X W Cs l hds) :
      ClNO X W (C :: Cs) ((x, su) :: l) (.ExceptHandler (some (.Name x np)) none (s0 :: ss) hp :: hds)
def clOO (X : Cx) (W : WX) : List Addr → List (Str × MS) → List (Value × TS)
  | C :: Cs, (x, su) :: l => (.ref C, tSt X W su) :: clOO X W Cs l
  | _, _ => []
theorem ClNO.ok {X : Cx} {W : WX} {Cs : List Addr} {l : List (Str × MS)} {hds : List ExceptHandler} (c : ClNO X W Cs l hds) : ClsO X hds (clOO X W Cs l) := by
  induction c with
  | nil => exact .nil
  | cons hg hdb hm hex apart ok rest ih => exact .cons ⟨hg, hdb, .inl hm⟩ (fun a oe pn => ok a oe pn) ih
theorem runClO_ok {X : Cx} {W : WX} {Dn : Ends} {Cs : List Addr} {l : List (Str × MS)} {hds : List ExceptHandler} (c : ClNO X W Cs l hds) {α : List Addr} {H : Hp} {e : XD} {ρ : Sl} {h : Sto} {σ : L2.St} {cls : Value} {d : Option Addr} (R : RelH X.K α h H) (E : RelE X.K α H ρ σ) (rx : RepX X.K X.mg α H e cls d)
    (o : OkS X.K X.mg W Dn α H (runClO e ρ h l)) : wClO X.K W Dn (clOO X W Cs l) cls d σ H := by
  induction c with
  | nil => exact o.elim
  | @cons x C su s0 ss np hp Cs l hds hg hdb hm hex apart ok rest ih =>
    unfold runClO at o
    by_cases hc : e.cls = x
    · rw [if_pos hc] at o
      have hcls : cls = .ref C := by
        obtain ⟨C', h1, h2, _⟩ := rx
        rw [hc, hm] at h1
        cases h1
        exact h2
      subst hcls
      exact ⟨true, hex, fun _ => ⟨α, ρ, h, R, E, o⟩, fun z => Bool.noConfusion z⟩
    · rw [if_neg hc] at o
      have key : ∀ (l : List (Str × MS)), OkS X.K X.mg W Dn α H (runClO e ρ h l) → ∃ su, (e.cls, su) ∈ l := by
        intro l
        induction l with
        | nil => exact fun z => z.elim
        | cons q r ih2 =>
          obtain ⟨c', su'⟩ := q
          intro z
          unfold runClO at z
          by_cases q : e.cls = c'
          · exact ⟨su', by rw [q]; exact List.mem_cons_self ..⟩
          · rw [if_neg q] at z
            obtain ⟨su2, m⟩ := ih2 z
            exact ⟨su2, List.mem_cons_of_mem _ m⟩
      obtain ⟨su2, m⟩ := key l o
      obtain ⟨C', m1, m2⟩ := apart _ _ m
      have hcls : cls = .ref C' := by
        obtain ⟨C2, h1, h2, _⟩ := rx
        rw [m1] at h1
        cases h1
        exact h2
      refine ⟨false, by rw [hcls]; exact m2, fun z => Bool.noConfusion z, fun _ => ih o⟩
theorem s_tryOs {X : Cx} {W : WX} {body : List Stmt} {hd0 : ExceptHandler} {hds : List ExceptHandler} {mb : MS} {Cs : List Addr} {l : List (Str × MS)} {pos : Pos} (hs : X.stack = X.env :: X.outer) (hf : X.env.frame = some X.env.locals) (tk : Takes X W)
    (hb : ∀ (W' : WX) (pn : List (Addr × Obj)) (xe : Value → Shared → Prop), Takes (X.tr pn xe) W' → PassesOwn (model X.prog X.w) X.A X.env xe → PSs (X.tr pn xe) body (tSt (X.tr pn xe) W' mb)) (c : ClNO X W Cs l (hd0 :: hds)) :
    PS X (.Try body (hd0 :: hds) [] [] pos) (tSt X W (mTryOs mb l)) := by
  refine ps_imp (ps_try_clO (tb := fun W' => tSt X W' mb) (Wout := W) hs hf tk hb c.ok) fun Dn σ H q => ?_
  obtain ⟨α, ρ, h, R, E, o⟩ := q
  refine ⟨α, ρ, h, R, E, ?_⟩
  unfold mTryOs at o
  cases hq : mb ρ h with
  | nx ρ1 h1 => rw [hq] at o; exact o
  | bk ρ1 h1 => rw [hq] at o; exact o
  | ct ρ1 h1 => rw [hq] at o; exact o
  | rt d h1 => rw [hq] at o; exact o
  | no => rw [hq] at o; exact o
  | ex e ρ1 h1 =>
    rw [hq] at o
    intro α' σ' H' cls d ext R' E' rx
    exact runClO_ok c R' E' rx (OkS.later ext o)
section
variable {ρ : Sl} {h : Sto} {Pn : Sl → Sto → Prop} {Q : D → Sto → Prop}
theorem wo_tryOs {mb : MS} {l : List (Str × MS)} (x : wxS (mb ρ h) fun e ρ1 h1 => wo (runClO e ρ1 h1 l) Pn Q) : wo (mTryOs mb l ρ h) Pn Q := by
  obtain ⟨e, ρ1, h1, e1, y⟩ := x
  unfold mTryOs; rw [e1]; exact y
theorem wo_tryOs0 {mb : MS} {l : List (Str × MS)} (x : wo (mb ρ h) Pn Q) : wo (mTryOs mb l ρ h) Pn Q := by
  rcases x with ⟨ρ1, h1, e, y⟩ | ⟨d, h1, e, y⟩
  · unfold mTryOs; rw [e]; exact .inl ⟨ρ1, h1, rfl, y⟩
  · unfold mTryOs; rw [e]; exact .inr ⟨d, h1, rfl, y⟩
end
end Ml
/-! The mill, part 29: max of a list of pairs of ints. -/
namespace Ml
open PySem PySem.Spec L2
abbrev PrI := Int × Int
def ltP (a b : PrI) : Bool := if a.1 = b.1 then decide (a.2 < b.2) else decide (a.1 < b.1)
def maxP : PrI → List PrI → PrI
  | x, [] => x
  | x, y :: ys => maxP (if ltP x y = true then y else x) ys
theorem maxP_of : ∀ (xs : List PrI) (x : PrI), PySem.W.maxOf x xs = maxP x xs
  | [], x => rfl
  | y :: ys, x => maxP_of ys (if ltP x y = true then y else x)
/-- the values of a list of pairs -/
inductive PrV (K : PySem.W.Frag) (H : Hp) : List V → List PrI → Prop
  | nil : PrV K H [] []
  | cons {b : Addr} {p : PrI} {us : List V} {ps : List PrI} (ht : SqT K H b [.int p.1, .int p.2]) (r : PrV K H us ps) : PrV K H (.ref b :: us) (p :: ps)
theorem PrV.at {K : PySem.W.Frag} {H : Hp} : ∀ {us : List V} {ps : List PrI}, PrV K H us ps → ∀ {i : Nat} {p : PrI}, ps[i]? = some p → ∃ b, us[i]? = some (.ref b) ∧ SqT K H b [.int p.1, .int p.2]
  | _, _, .nil, _, _, e => by simp at e
  | _, _, .cons ht r, 0, _, e => by simp at e; subst e; exact ⟨_, rfl, ht⟩
  | _, _, .cons ht r, i + 1, _, e => by
    obtain ⟨b, e1, h1⟩ := r.at (i := i) (by simpa using e)
    exact ⟨b, by simpa using e1, h1⟩
theorem PrV.len {K : PySem.W.Frag} {H : Hp} {us : List V} {ps : List PrI} (r : PrV K H us ps) : us.length = ps.length := by
  induction r with
  | nil => rfl
  | cons _ _ ih => simp [ih]
def rMaxP (K : PySem.W.Frag) : List V → Hp → VK → Prop := fun vs H Q => ∃ (a : Addr) (us : List V) (p : PrI) (ps : List PrI), vs = [V.ref a] ∧ SqL K H a us ∧ PrV K H us (p :: ps) ∧ ∀ (i : Nat) (u : V), us[i]? = some u → (p :: ps)[i]? = some (maxP p ps) → Q u H
theorem prs_hold {X : Cx} {pins} {σ} {H : Hp} {s : Shared} (I : Inv X pins σ H s) : ∀ {us : List V} {ps : List PrI} {its : List Value}, PrV X.K H us ps → Vals us its → PySem.W.HoldAll s.heap its ps
  | [], [], _, _, r => by cases r; exact .nil
  | _ :: _, _ :: _, _, .cons ht pr, r => by
    cases r with
    | cons r1 r2 =>
      cases r1
      obtain ⟨its2, rv, tp, _⟩ := I.tuple ht
      obtain ⟨u, w, rfl, ⟨t1, h1⟩, ⟨t2, h2⟩⟩ := vals2 rv
      subst h1 h2
      exact .cons (PySem.W.holds_pair (x := _) (y := _) tp (PySem.W.holds_int _ _) (PySem.W.holds_int _ _)) (prs_hold I pr r2)
theorem hold_inj {h : Heap} {v : Value} {p q : PrI} (a : PySem.W.Holds h v p) (b : PySem.W.Holds h v q) : p = q := by
  obtain ⟨as, r⟩ := a
  obtain ⟨bs, r'⟩ := b
  have e : PyData.tuple [.int p.1, .int p.2] = .tuple [.int q.1, .int q.2] := (PySem.Reads.unique r _ _ r').1
  injection e with e
  injection e with e1 e
  injection e with e2 _
  injection e1 with e1
  injection e2 with e2
  exact Prod.ext e1 e2
theorem cr_maxP {X : Cx} (hc : X.calm = true) (hu : X.A.units + 2 < cLine) : CallR X (.builtin "max") (rMaxP X.K) := by
  intro pins s σ H vs us Q I r h
  obtain ⟨a, ws, p, ps, rfl, hs, hp, q⟩ := h
  rw [Vals.ref1 r]
  obtain ⟨its, rv, pl, hz⟩ := I.list hs
  have hold := prs_hold I hp rv
  refine PySem.W.max_list_datum (α := PrI) (x := p) (xs := ps) (I.ok.hd hc) pl.isList (by simpa using hold) (by show X.A.units + 1 + 1 < cLine; omega) fun i v h' tk hv hh k => ?_
  have hv : its[i]? = some v := by simpa using hv
  obtain ⟨pm, e1, h1⟩ := hold.at hv
  have h1 := PySem.W.Holds.keeps k h1
  have e2 : pm = maxP p ps := by
    rw [← maxP_of]
    exact hold_inj h1 hh
  subst e2
  obtain ⟨b, e3, h3⟩ := hp.at e1
  obtain ⟨v', e4, r4⟩ := rv.get e3
  rw [hv] at e4
  cases e4
  exact ⟨.ref b, H, I.kept (t' := tk) k, r4, q i _ e3 e1⟩
def allPr : List D → Option (List PrI)
  | [] => some []
  | .tup [.int a, .int b] :: r => match allPr r with
    | some ps => some ((a, b) :: ps)
    | none => none
  | _ :: _ => none
def maxPF : List D → Sto → R D
  | [.ref n], h => match anyAt h n with
    | some xs => match allPr xs with
      | some (p :: ps) => .ok (.tup [.int (maxP p ps).1, .int (maxP p ps).2]) h
      | _ => .no
    | none => .no
  | _, _ => .no
theorem allPr_rep {K : PySem.W.Frag} {α : List Addr} {H : Hp} : ∀ {xs : List D} {ps : List PrI} {us : List V}, allPr xs = some ps → Reps K α H xs us → PrV K H us ps ∧ xs = ps.map fun p => D.tup [.int p.1, .int p.2]
  | [], ps, us, e, r => by
    cases r
    cases e
    exact ⟨.nil, rfl⟩
  | d :: ds, ps, us, e, r => by
    obtain ⟨v, vs, rfl, r1, r2⟩ := r
    unfold allPr at e
    split at e
    · rename_i h1
      cases h1
    · rename_i a b r' h1
      cases h1
      split at e
      · rename_i ps' e1
        cases e
        obtain ⟨z1, z2⟩ := allPr_rep e1 r2
        obtain ⟨q, ws, rfl, ht, rw⟩ := r1
        obtain ⟨w1, t1, rfl, x1, w2, t2, rfl, x2, rfl⟩ := rw
        have y1 : w1 = V.int a := x1
        have y2 : w2 = V.int b := x2
        subst y1 y2
        exact ⟨.cons (p := (a, b)) ht z1, by rw [z2]; rfl⟩
      · cases e
    · cases e
theorem maxP_ok {X : Cx} : CallN X maxPF (rMaxP X.K) := by
  intro W σ Q α h H ds vs R rs o
  unfold maxPF at o
  split at o
  · rename_i n
    obtain ⟨v, r, rfl, r1, r2⟩ := rs
    cases r2
    split at o
    · rename_i xs e1
      split at o
      · rename_i p ps e2
        obtain ⟨a, us, _, rfl, hs, rx⟩ := R.any e1 r1
        obtain ⟨pr, ex⟩ := allPr_rep e2 rx
        refine ⟨a, us, p, ps, rfl, hs, pr, fun i u e3 e4 => o α H _ .refl R ?_⟩
        obtain ⟨d, e5, r5⟩ := Reps.get' rx e3
        rw [ex, List.getElem?_map, e4] at e5
        cases e5
        exact r5
      · exact o.elim
    · exact o.elim
  · exact o.elim
theorem u02 {k : Nat} {A : Around} (r : Room k A) : A.units + 2 < cLine := by have := r.un; omega
end Ml
/-! The old mill, part 30: a tuple of words of the module's top; str(i). -/
noncomputable section
namespace Ml
open PySem PySem.Spec PyProof.Rows L2
section
variable {X : Cx} {W : WX} {pos p : Pos}
def TupM (K : PySem.W.Frag) (a : Addr) (xs : List D) : Prop := ∃ (o : Obj) (its : Array Value) (n : Nat) (vs : List V), K.lookup a = some o ∧ o.cls = .type "tuple" ∧ o.data = .seq its n ∧ its.size ≤ sizeLine ∧ Vals vs its.toList ∧ ∀ α H, Reps K α H xs vs
theorem d_tupM {x : Str} {xs : List D} {a : Addr} (h : TupM X.K a xs) (hm : X.mg x = some (.ref a)) (hg : Gl X x := by rfl) (hdb : (x == ("__debug__" : Str)) = false := by decide) : PE X (.Name x pos) (tD X W (mC (.tup xs))) := by
  obtain ⟨o, its, n, vs, h1, h2, h3, h4, h5, h6⟩ := h
  exact d_c (pe_fnm hm hg hdb) fun α H => ⟨a, vs, rfl, .inr ⟨o, its, n, h1, h2, h3, h4, h5⟩, h6 α H⟩
theorem tupM_strs {K : PySem.W.Frag} {a : Addr} {oc : Value} {od : Option Addr} {its : Array Value} {n : Nat} {sl : Array (Option Value)} (xs : List Str) (l : K.lookup a = some ⟨oc, od, .seq its n, sl⟩) (hc : oc = .type "tuple") (h : Vals (xs.map V.str) its.toList) (hs : xs.length ≤ 1000) : TupM K a (xs.map D.str) := by
  refine ⟨_, its, n, xs.map V.str, l, hc, rfl, ?_, h, fun α H => ?_⟩
  · have := h.length
    have z : its.toList.length = its.size := Array.length_toList
    rw [List.length_map] at this
    rw [sizeLine_eq]; omega
  · clear h hs
    induction xs with
    | nil => rfl
    | cons x xs ih => exact ⟨_, _, rfl, rfl, ih⟩
def strN (ds : List D) (h : Sto) : R D := match ds with
  | [.int i] => if i.natAbs.log2 < 1920 then .ok (.str (toString i)) h else .no
  | _ => .no
theorem strN_ok : CallN X strN (fun xs H Q => ∃ i, xs = [.int i] ∧ i.natAbs.log2 < 1920 ∧ Q (.str (toString i)) H) := by
  intro W σ Q α h H ds vs R rs o
  unfold strN at o
  split at o
  · rename_i i
    obtain ⟨v, r, rfl, rx, rn⟩ := rs
    cases rn
    cases (show v = .int i from rx)
    split at o
    · rename_i c
      exact ⟨i, rfl, c, o α H _ .refl R rfl⟩
    · exact o.elim
  · exact o.elim
end
end Ml
end
/-! The mill, part 31: sorted(set(..)) of nested tuples, four of them at most. -/
namespace Ml
open PySem PySem.Spec L2 PyProof.Rows
/-- a tuple that is a key -/
def IsN (h : Heap) (k : NestedKey) (b : Addr) : Prop := NestedIs h k (.ref b) ∧ k.depth ≤ 8
theorem IsN.on {h h' : Heap} {k : NestedKey} {b : Addr} (x : IsN h k b) (kp : ∀ c o vs n, h.get? c = some o → o.data = .seq vs n → h'.get? c = some o) : IsN h' k b := ⟨NestedIs.at kp _ _ x.1, x.2⟩
theorem IsN.but {h h' : Heap} {k : NestedKey} {a b : Addr} {o : Obj} {es : Array (Int × Value)} {ep : Nat} {t : SetTable} (x : IsN h k b) (ho : h.get? a = some o) (hd : o.data = .set es ep t) (hs : Heap.SameBut a h h') : IsN h' k b :=
  x.on fun c u vs n hc hv => (hs.2 c fun e => by
    subst e
    rw [ho] at hc
    cases hc
    rw [hd] at hv
    cases hv).trans hc
section
variable {P : Program} {w : World} {E : Value → Shared → Prop}
/-- whether a key's hash goes by value: whatever the answer -/
def ByT (P : Program) (w : World) (n : Nat) (s : Shared) (v : Value) : Prop := ∀ (A : Around) (E : Value → Shared → Prop) (Q : Bool → Shared → Prop), (∀ b, Q b s) → wpAny (model P w) A (hashByValue n v) Q E s
theorem ByT.pure {n : Nat} {s : Shared} {v : Value} {b : Bool} (e : hashByValue n v = Pure.pure b) : ByT P w n s v := fun A E Q q => by
  rw [e]
  exact wpAny_pure (q b)
theorem ByT.tuple {n : Nat} {s : Shared} {a : Addr} {o : Obj} {vs : Array Value} {m : Nat} (ho : s.heap.get? a = some o) (hc : o.cls = .type "tuple") (hd : o.data = .seq vs m) (each : ∀ v ∈ vs.toList, ByT P w n s v) : ByT P w (n + 1) s (.ref a) := fun A E Q q => by
  unfold hashByValue
  refine wpAny_bind (wpAny_specialOf (show s.TypeIs (.ref a) "tuple" from ⟨o, ho, hc⟩) F.slot_tuple_hash.lookup ?_)
  refine (show wpAny _ _ (seqItems? (.ref a) >>= _) _ _ s from wpAny_bind (wpAny_seqItems ho hd (wpAny_bind ?_)))
  show wpAny _ _ (forIn vs _ _) _ _ s
  rw [← Array.forIn_toList]
  refine wpAny_forIn_list _ (fun l r s1 => s1 = s ∧ r.1 = none ∧ ∀ v ∈ l, ByT P w n s v) _ (fun v l r s1 ⟨e1, e2, e3⟩ => ?_) (fun r s1 ⟨e1, e2, _⟩ => ?_) _ _ ⟨rfl, rfl, each⟩
  · subst e1
    refine wpAny_bind (e3 v List.mem_cons_self _ _ _ fun b => ?_)
    cases b with
    | true => exact wpAny_pure ⟨rfl, rfl, fun u hu => e3 u (List.mem_cons_of_mem _ hu)⟩
    | false => exact wpAny_pure (wpAny_pure (q false))
  · obtain ⟨r1, r2⟩ := r
    subst e1
    cases e2
    exact wpAny_pure (q true)
mutual
theorem byT : ∀ (k : NestedKey) (v : Value) (n : Nat) (s : Shared), NestedIs s.heap k v → ByT P w n s v
  | .none, _, n, s, x => by cases x; exact .pure (b := true) (by cases n <;> rfl)
  | .num i, _, n, s, x => by cases x <;> exact .pure (b := true) (by cases n <;> rfl)
  | .text y, _, n, s, x => by cases x; exact .pure (b := false) (by cases n <;> rfl)
  | .tup ks, _, 0, s, x => by cases x with | tup g c d k => exact .pure (b := false) rfl
  | .tup ks, _, n + 1, s, x => by cases x with | tup g c d k => exact .tuple g c d (byTs ks _ n s k)
theorem byTs : ∀ (ks : List NestedKey) (vs : List Value) (n : Nat) (s : Shared), NestedAll s.heap ks vs → ∀ v ∈ vs, ByT P w n s v
  | [], _, n, s, x, v, hv => by cases x; cases hv
  | k :: ks, _, n, s, x, v, hv => by
    cases x with
    | cons x1 x2 =>
      rcases List.mem_cons.mp hv with e | e
      · subst e; exact byT k _ n s x1
      · exact byTs ks _ n s x2 v e
end
/-- a key is of no class statement -/
def NoC (P : Program) (w : World) (n : Nat) (s : Shared) (v : Value) : Prop := ∀ (A : Around) (E : Value → Shared → Prop) (Q : Bool → Shared → Prop), Q false s → wpAny (model P w) A (ofAClassStatement n v) Q E s
theorem NoC.pure {n : Nat} {s : Shared} {v : Value} (e : ofAClassStatement n v = Pure.pure false) : NoC P w n s v := fun A E Q q => by
  rw [e]
  exact wpAny_pure q
theorem NoC.tuple {n : Nat} {s : Shared} {a : Addr} {o : Obj} {vs : Array Value} {m : Nat} (ho : s.heap.get? a = some o) (hc : o.cls = .type "tuple") (hd : o.data = .seq vs m) (each : ∀ v ∈ vs.toList, NoC P w n s v) : NoC P w (n + 1) s (.ref a) := fun A E Q q => by
  unfold ofAClassStatement
  refine wpAny_bind (wpAny_typeOf (show s.TypeIs (.ref a) "tuple" from ⟨o, ho, hc⟩) ?_)
  dsimp only
  simp only [show (("tuple" : String) == "tuple") = true from by decide, if_true, Bool.not_true, Bool.false_eq_true, if_false]
  try refine wpAny_bind (wpAny_pure ?_)
  try simp only [Bool.not_true, Bool.false_eq_true, if_false]
  refine (show wpAny _ _ (seqItems? (.ref a) >>= _) _ _ s from wpAny_bind (wpAny_seqItems ho hd ?_))
  dsimp only
  refine wpAny_bind ?_
  show wpAny _ _ (forIn vs _ _) _ _ s
  rw [← Array.forIn_toList]
  refine wpAny_forIn_list _ (fun l r s1 => s1 = s ∧ r.1 = none ∧ ∀ v ∈ l, NoC P w n s v) _ (fun v l r s1 ⟨e1, e2, e3⟩ => ?_) (fun r s1 ⟨e1, e2, _⟩ => ?_) _ _ ⟨rfl, rfl, each⟩
  · subst e1
    refine wpAny_bind (e3 v List.mem_cons_self _ _ _ ?_)
    exact wpAny_pure ⟨rfl, rfl, fun u hu => e3 u (List.mem_cons_of_mem _ hu)⟩
  · obtain ⟨r1, r2⟩ := r
    subst e1
    cases e2
    exact wpAny_pure q
mutual
theorem noC : ∀ (k : NestedKey) (v : Value) (n : Nat) (s : Shared), NestedIs s.heap k v → k.depth ≤ n → NoC P w n s v
  | .none, _, n, s, x, _ => by cases x; exact .pure (by cases n <;> rfl)
  | .num i, _, n, s, x, _ => by cases x <;> exact .pure (by cases n <;> rfl)
  | .text y, _, n, s, x, _ => by cases x; exact .pure (by cases n <;> rfl)
  | .tup ks, _, 0, s, x, d => by simp [NestedKey.depth] at d
  | .tup ks, _, n + 1, s, x, d => by cases x with | tup g c e k => exact .tuple g c e (noCs ks _ n s k (by simp only [NestedKey.depth] at d; omega))
theorem noCs : ∀ (ks : List NestedKey) (vs : List Value) (n : Nat) (s : Shared), NestedAll s.heap ks vs → NestedKey.depthAll ks ≤ n → ∀ v ∈ vs, NoC P w n s v
  | [], _, n, s, x, _, v, hv => by cases x; cases hv
  | k :: ks, _, n, s, x, d, v, hv => by
    cases x with
    | cons x1 x2 =>
      simp only [NestedKey.depthAll] at d
      rcases List.mem_cons.mp hv with e | e
      · subst e; exact noC k _ n s x1 (by omega)
      · exact noCs ks _ n s x2 (by omega) v e
end
/-- nobody sees a search among keys -/
theorem unseen {s : Shared} {A : Around} {k : NestedKey} {b : Addr} {ys : List Value} {Q : Bool → Shared → Prop} (x : IsN s.heap k b) (hy : ∀ y ∈ ys, ∃ k1 c, y = Value.ref c ∧ IsN s.heap k1 c) (q : Q false s) : wpAny (model P w) A (searchCouldBeSeen (.ref b) ys) Q E s := by
  unfold searchCouldBeSeen
  refine wpAny_bind (wpAny_forIn_list _ (fun l r s1 => s1 = s ∧ r.1 = none ∧ ∀ y ∈ l, ∃ k1 c, y = Value.ref c ∧ IsN s.heap k1 c) _ (fun v l r s1 ⟨e1, e2, e3⟩ => ?_) (fun r s1 ⟨e1, e2, _⟩ => ?_) _ _ ⟨rfl, rfl, hy⟩)
  · subst e1
    obtain ⟨k1, c, rfl, hc⟩ := e3 v List.mem_cons_self
    have more := fun u (hu : u ∈ l) => e3 u (List.mem_cons_of_mem _ hu)
    dsimp only
    by_cases z : (b == c || (carriedByValue (.ref b) && carriedByValue (.ref c))) = true
    · exact wp_if_pos z (wpAny_pure ⟨rfl, rfl, more⟩)
    · refine wp_if_neg z (wpAny_bind ((nestedKind P w).quiet x ?_))
      simp only [Bool.not_true, Bool.false_eq_true, if_false]
      refine wpAny_bind ((nestedKind P w).quiet hc ?_)
      simp only [Bool.not_true, Bool.false_eq_true, if_false]
      refine wpAny_bind (noC k _ 8 _ x.1 x.2 _ _ _ ?_)
      simp only [Bool.false_eq_true, if_false]
      refine wpAny_bind (noC k1 _ 8 _ hc.1 hc.2 _ _ _ ?_)
      simp only [Bool.false_eq_true, if_false]
      exact wpAny_pure ⟨rfl, rfl, more⟩
  · obtain ⟨r1, r2⟩ := r
    subst e1
    cases e2
    exact wpAny_pure q
end
end Ml
/-! The mill, part 34: a set of nested tuples, by its table of eight places. -/
namespace Ml
open PySem PySem.Spec L2 PyProof.Rows
/-- at most four keys in a table of eight places -/
structure SetN (P : Program) (w : World) (h : Heap) (a : Addr) (L : List (Addr × NestedKey)) (es : Array (Int × Value)) (ep : Nat) (t : SetTable) : Prop where
  obj : ∃ o, h.get? a = some o ∧ o.ExactSet ∧ o.data = .set es ep t
  row : es.toList = L.map fun q => (q.2.hash w, Value.ref q.1)
  tab : TabOk t (L.map fun q => q.2.hash w)
  dif : (L.map (·.2)).Nodup
  key : ∀ q ∈ L, IsN h q.2 q.1
  led : w.params.followText "set-order" = true ∨ t.led = true
  msk : t.mask = 7
  few : L.length ≤ 4
section
variable {P : Program} {w : World} {h : Heap} {a : Addr} {L : List (Addr × NestedKey)} {es : Array (Int × Value)} {ep : Nat} {t : SetTable}
theorem SetN.size (R : SetN P w h a L es ep t) : es.size = L.length := by
  rw [← Array.length_toList, R.row, List.length_map]
theorem SetN.places (R : SetN P w h a L es ep t) : t.place.size = L.length := by rw [R.tab.sz, List.length_map]
theorem SetN.fits (R : SetN P w h a L es ep t) : t.fits es.size = true := by
  have h1 := R.places; have h2 := R.size; have h3 := R.few; have h4 := R.msk
  simp only [SetTable.fits, SetTable.fill, R.tab.dm, Bool.and_eq_true, beq_iff_eq, decide_eq_true_eq]
  exact ⟨by omega, by simp; omega⟩
theorem SetN.at (R : SetN P w h a L es ep t) {i : Nat} {q : Addr × NestedKey} (e : L[i]? = some q) : es[i]? = some (q.2.hash w, Value.ref q.1) := by
  rw [← Array.getElem?_toList, R.row, List.getElem?_map, e]; rfl
theorem SetN.on {h' : Heap} (R : SetN P w h a L es ep t) (k : ∀ b o, h.get? b = some o → h'.get? b = some o) : SetN P w h' a L es ep t := by
  obtain ⟨o, ho, r⟩ := R.obj
  exact ⟨⟨o, k a o ho, r⟩, R.row, R.tab, R.dif, fun q hq => (R.key q hq).on fun c u _ _ hc _ => k c u hc, R.led, R.msk, R.few⟩
theorem SetN.born (ho : h.get? a = some { cls := .type "set", dict := none, data := .set #[] 0 (.fresh 0 0 (!w.params.followText "set-order")) }) : SetN P w h a [] #[] 0 (.fresh 0 0 (!w.params.followText "set-order")) :=
  ⟨⟨_, ho, ⟨rfl, rfl, rfl⟩, rfl⟩, rfl, ⟨List.Pairwise.nil, rfl, rfl, .inl rfl, fun x z => (by cases z), fun i z j q => (by simp at q)⟩, List.nodup_nil, fun q z => (by cases z), by
    show _ ∨ (!w.params.followText "set-order") = true
    cases w.params.followText "set-order" <;> simp, rfl, Nat.zero_le _⟩
end
section
variable {P : Program} {w : World} {A : Around} {E : Value → Shared → Prop} {s : Shared} {a : Addr} {L : List (Addr × NestedKey)} {es : Array (Int × Value)} {ep : Nat} {t : SetTable}
/-- the c-th place that is looked at -/
abbrev Pr (t : SetTable) (H : Int) (c : Nat) : SetTable.Probe := L2.nth t.mask (runAt t.mask (SetTable.bits H % (t.mask + 1)) (SetTable.bits H)) c
theorem pr_dummy (m : Nat) : ∀ (n : Nat) (p : SetTable.Probe), p.dummy = none → (L2.nth m p n).dummy = none
  | 0, _, e => e
  | n + 1, p, e => pr_dummy m n (adv m p) (by unfold adv; split <;> exact e)
theorem pr_add (t : SetTable) (H : Int) (c q : Nat) : L2.nth t.mask (Pr t H c) q = Pr t H (c + q) := (nth_add t.mask c _ q).symm
/-- the search, from the c-th place on -/
theorem seek_from (R : SetN P w s.heap a L es ep t) {x : Addr} {k : NestedKey} (hx : IsN s.heap k x) (hu : A.units + 8 < cLine) {H : Int} (eH : H = k.hash w) {K : Nat} (big : K < 10 * SetTable.turns t.mask)
    (free : way t.mask H K ∉ t.place.toList) (live : ∀ c, c < K → way t.mask H c ∈ t.place.toList) {Q : SetFound → Shared → Prop} (yes : k ∈ L.map (·.2) → Q (.there none) s) (no : k ∉ L.map (·.2) → Q (.free (way t.mask H K) false) s) :
    ∀ (f c : Nat) (stand : Option SetTable.Probe), stand.getD (t.probeStart H) = Pr t H c → c ≤ K → K < f + c → (∀ (i : Nat) q, L[i]? = some q → q.2 = k → ∃ d, c ≤ d ∧ d < K ∧ t.place.toList[i]? = some (way t.mask H d)) →
      wpAny (model P w) A (setSearchFrom a (.ref x) H true f stand) Q E s := by
  intro f
  induction f with
  | zero => intro c _ _ h1 h2; omega
  | succ f ih =>
    intro c stand est cK fK back
    obtain ⟨o, ho, _, hd⟩ := R.obj
    have odd : ¬ t.gaveWay = true := by simp [SetTable.gaveWay, R.msk]
    rw [setSearchFrom_succ]
    refine wpAny_bind (wpAny_setState_of ho hd R.fits ?_)
    dsimp only
    refine wp_if_neg odd ?_
    try refine wpAny_bind (wpAny_pure ?_)
    have hashes : ∀ (i : Nat) q, L[i]? = some q → (es[i]?.map (·.1)).getD 0 = q.2.hash w := fun i q e => by rw [R.at e]; rfl
    have spec := go_spec t R.tab.ris R.tab.dm (fun i => (es[i]?.map (·.1)).getD 0) H (10 * SetTable.turns t.mask) (K - c) (Pr t H c) (pr_dummy _ _ _ rfl) (by omega)
      (fun q hq => by rw [pr_add]; exact live (c + q) (by omega)) (by rw [pr_add, show c + (K - c) = K by omega]; exact free)
    have start : t.probe (fun i => (es[i]?.map (·.1)).getD 0) H (stand.getD (t.probeStart H)) = SetTable.probe.go t (fun i => (es[i]?.map (·.1)).getD 0) H (10 * SetTable.turns t.mask) (Pr t H c) := by rw [est]; rfl
    rcases spec with ⟨q, i, hq, hi, hh, before, found⟩ | ⟨none, found⟩
    · rw [pr_add] at hi found
      rw [pr_add] at found
      rw [start, found]
      dsimp only
      have il : i < L.length := by
        have := (List.getElem?_eq_some_iff.mp hi).1
        rw [Array.length_toList, R.places] at this
        exact this
      obtain ⟨r, er⟩ : ∃ r, L[i]? = some r := ⟨L[i], List.getElem?_eq_getElem il⟩
      have rin : r ∈ L := List.mem_of_getElem? er
      have on : wpAny (model P w) A (searchRest a (.ref x) H true f es t (way t.mask H (c + q)) i (Pr t H (c + (q + 1)))) Q E s := by
        unfold searchRest
        rw [R.at er]
        dsimp only
        refine wpAny_bind (wpAny_holding ((nestedKind P w).eqBool hu (R.key r rin) hx ?_))
        refine wpAny_bind (wpAny_setState_of ho hd R.fits ?_)
        dsimp only
        by_cases same : r.2 = k
        · exact wp_if_pos (by simp [same]) (wpAny_pure (yes (List.mem_map.mpr ⟨r, rin, same⟩)))
        · refine wp_if_neg (by simp [same]) ?_
          try refine wpAny_bind (wpAny_pure ?_)
          rw [sameMem]
          dsimp only
          have sl := slot_live R.tab.ris hi
          simp only [if_true, sl, R.at er]
          refine wpAny_bind (wpAny_isSame_ref_self (wpAny_bind (wpAny_pure ?_)))
          simp only [if_true]
          refine wp_if_neg (by simp [same]) (ih (c + (q + 1)) _ rfl (by omega) (by omega) fun j u hj hu2 => ?_)
          obtain ⟨d, d1, d2, d3⟩ := back j u hj hu2
          refine ⟨d, ?_, d2, d3⟩
          by_cases z : d < c + q
          · refine absurd ((hashes j u hj).trans (by rw [hu2, eH])) (before (d - c) j (by omega) ?_)
            rw [pr_add, show c + (d - c) = d by omega]
            exact d3
          · by_cases y : d = c + q
            · exfalso
              subst y
              have sl2 := slot_live R.tab.ris d3
              rw [sl] at sl2
              injection sl2 with e
              subst e
              rw [er] at hj
              cases hj
              exact same hu2
            · omega
      by_cases hl : t.led = true
      · refine wp_if_neg (by simp [hl]) ?_
        try refine wpAny_bind (wpAny_pure ?_)
        exact on
      · refine wp_if_pos (by simp [hl]) (wpAny_bind (unseen hx (fun y hy => ?_) ?_))
        · obtain ⟨e, he, rfl⟩ := List.mem_map.mp hy
          have he1 : e ∈ es.toList := by simp only [Array.toList_filter, List.mem_filter] at he; exact he.1
          rw [R.row] at he1
          obtain ⟨u, hu1, rfl⟩ := List.mem_map.mp he1
          exact ⟨u.2, u.1, rfl, R.key u hu1⟩
        · refine wp_if_neg (by decide) ?_
          try refine wpAny_bind (wpAny_pure ?_)
          exact on
    · rw [pr_add, show c + (K - c) = K by omega] at found
      rw [start, found]
      dsimp only
      refine wpAny_pure (no fun hm => ?_)
      obtain ⟨u, hu1, hu2⟩ := List.mem_map.mp hm
      obtain ⟨j, hj, ej⟩ := List.getElem_of_mem hu1
      have gj : L[j]? = some u := by rw [List.getElem?_eq_getElem hj, ej]
      obtain ⟨d, d1, d2, d3⟩ := back j u gj hu2
      refine none (d - c) j (by omega) ?_ ((hashes j u gj).trans (by rw [hu2, eH]))
      rw [pr_add, show c + (d - c) = d by omega]
      exact d3
theorem seek (R : SetN P w s.heap a L es ep t) {x : Addr} {k : NestedKey} (hx : IsN s.heap k x) (hu : A.units + 8 < cLine) {Q : SetFound → Shared → Prop} (yes : k ∈ L.map (·.2) → Q (.there none) s)
    (no : ∀ K, k ∉ L.map (·.2) → way t.mask (k.hash w) K ∉ t.place.toList → (∀ c, c < K → way t.mask (k.hash w) c ∈ t.place.toList) → Q (.free (way t.mask (k.hash w) K) false) s) : wpAny (model P w) A (setSearch a (.ref x) (k.hash w) true) Q E s := by
  have few := R.few; have msk := R.msk
  obtain ⟨K, k1, k2, k3⟩ := R.tab.first (by rw [List.length_map]; omega) (k.hash w)
  have lim : K < 100000 := by simp only [SetTable.turns, msk] at k1; omega
  unfold setSearch
  refine seek_from R hx hu rfl k1 k2 k3 yes (fun n => no K n k2 k3) 100000 0 none rfl (Nat.zero_le _) (by omega) fun i q hq e => ?_
  have il : i < t.place.toList.length := by rw [Array.length_toList, R.places]; exact (List.getElem?_eq_some_iff.mp hq).1
  have hj := List.getElem?_eq_getElem il
  obtain ⟨d, d1, d2⟩ := R.tab.before k2 (show (L.map fun q => q.2.hash w)[i]? = some (k.hash w) by rw [List.getElem?_map, hq, ← e]; rfl) hj
  exact ⟨d, Nat.zero_le _, d1, by rw [hj, d2]⟩
/-- adding a key -/
theorem add_n (R : SetN P w s.heap a L es ep t) {x : Addr} {k : NestedKey} (hx : IsN s.heap k x) (hu : A.units + 8 < cLine) (room : L.length < 4) {Q : Bool → Shared → Prop}
    (go : ∀ b h2 L2 es2 ep2 t2, Heap.SameBut a s.heap h2 → SetN P w h2 a L2 es2 ep2 t2 → (k ∈ L.map (·.2) ∧ L2 = L ∨ k ∉ L.map (·.2) ∧ L2.Perm ((x, k) :: L)) → Q b { s with heap := h2 }) : wpAny (model P w) A (setAddHashed a (.ref x) (k.hash w)) Q E s := by
  obtain ⟨o, ho, hex, hd⟩ := R.obj
  unfold setAddHashed
  refine wpAny_holding ?_
  rw [show (100000 : Nat) = 99999 + 1 from rfl, setAddHashedIn_succ]
  refine wpAny_bind (wpAny_setState_of ho hd R.fits ?_)
  dsimp only
  refine wp_if_neg (by simp [byScan, Value.scannable]) ?_
  try refine wpAny_bind (wpAny_pure ?_)
  refine wpAny_bind (seek R hx hu (fun y => ?_) fun K n k2 k3 => ?_)
  · dsimp only
    exact wpAny_pure (go false s.heap L es ep t (Heap.SameBut.refl a s.heap) R (.inl ⟨y, rfl⟩))
  · dsimp only
    refine wpAny_bind (wpAny_setState_of ho hd R.fits ?_)
    dsimp only
    obtain ⟨q1, q2, q3, q4, q5, -, -, -, q9⟩ := R.tab.put k2 k3
    generalize t.put (way t.mask (k.hash w) K) = pt at q1 q3 q4 q5 q9 ⊢
    obtain ⟨t1, p⟩ := pt
    dsimp only at q1 q3 q4 q5 q9 ⊢
    rw [← q1] at q2 q3
    clear q1
    have rows : (SetTable.insertAt es p (k.hash w, Value.ref x)).toList = (L.take p ++ (x, k) :: L.drop p).map fun q => (q.2.hash w, Value.ref q.1) := by
      rw [SetTable.toList_insertAt, R.row, List.map_append, List.map_cons, List.map_take, List.map_drop]
    have hs : (L.map fun q => q.2.hash w).take p ++ k.hash w :: (L.map fun q => q.2.hash w).drop p = (L.take p ++ (x, k) :: L.drop p).map fun q => q.2.hash w := by
      rw [List.map_append, List.map_cons, List.map_take, List.map_drop]
    rw [hs] at q3
    have pm : (L.take p ++ (x, k) :: L.drop p).Perm ((x, k) :: L) := by
      have := List.perm_middle (l₁ := L.take p) (a := (x, k)) (l₂ := L.drop p)
      rwa [List.take_append_drop] at this
    generalize L.take p ++ (x, k) :: L.drop p = L1 at rows q3 pm
    have n1 : L1.length = L.length + 1 := pm.length_eq
    have sz : (SetTable.insertAt es p (k.hash w, Value.ref x)).size = L.length + 1 := by rw [← Array.length_toList, rows, List.length_map, n1]
    generalize SetTable.insertAt es p (k.hash w, Value.ref x) = es1 at rows sz ⊢
    have fin : ∀ t2 : SetTable, t2.place = t1.place → t2.dummies = t1.dummies → t2.mask = t1.mask → t2.led = t1.led →
        wpAny (model P w) A (do
          storeSet a es1 t2
          if (!false && t2.tooFull) = true then setRelay a (SetTable.grown (es.size + 1))
          return true) Q E s := fun t2 e1 e2 e3 e4 => by
      have notFull : t2.tooFull = false := by
        have : t2.fill = L.length + 1 := by
          have : t1.fill = L.length + 1 := by rw [q9, List.length_map]
          unfold SetTable.fill at this ⊢
          rw [e1, e2]; exact this
        simp only [SetTable.tooFull, this, e3, q4, R.msk]
        simp; omega
      refine wpAny_bind (wpAny_storeSet_of ho hd ?_ (by rw [sz, sizeLine_eq]; omega))
      have sb : Heap.SameBut a s.heap (s.heap.update a (Obj.putSet es1 t2)) := Heap.SameBut.update ..
      have ho1 := store_at (es' := es1) (t' := t2) ho hd
      have tb : TabOk t2 (L1.map fun q => q.2.hash w) := by
        obtain ⟨a1, a2, a3, a4, a5, a6⟩ := q3
        exact ⟨by rw [e1]; exact a1, by rw [e2]; exact a2, by rw [e1]; exact a3, by rw [e3]; exact a4, by rw [e1, e3]; exact a5, by rw [e1, e3]; exact a6⟩
      have done : Q true { s with heap := s.heap.update a (Obj.putSet es1 t2) } := go true _ L1 es1 (ep + 1) t2 sb ⟨⟨_, ho1, ⟨hex.1, hex.2.1, hex.2.2⟩, rfl⟩, rows, tb, (pm.map (·.2)).nodup_iff.mpr (by rw [List.map_cons]; exact List.nodup_cons.mpr ⟨n, R.dif⟩),
        fun q hq => by
          rcases List.mem_cons.mp (pm.mem_iff.mp hq) with e | e
          · rw [e]; exact hx.but ho hd sb
          · exact (R.key q e).but ho hd sb,
        by rw [e4, q5]; exact R.led, by rw [e3, q4]; exact R.msk, by omega⟩ (.inr ⟨n, pm⟩)
      first
        | exact wp_if_neg (by simp [notFull]) (wpAny_pure done)
        | exact wpAny_bind (wp_if_neg (by simp [notFull]) (wpAny_pure (wpAny_pure done)))
    by_cases hp : t1.plain = true
    · first
        | (refine wpAny_bind ?_; refine wp_if_pos hp ?_; refine byT k _ 8 _ hx.1 _ _ _ fun b => ?_)
        | (refine wp_if_pos hp (wpAny_bind (byT k _ 8 _ hx.1 _ _ _ fun b => ?_)))
      cases b with
      | true => exact fin t1 rfl rfl rfl rfl
      | false => exact fin { t1 with plain := false } rfl rfl rfl rfl
    · first
        | (refine wpAny_bind ?_; refine wp_if_neg hp ?_; refine wpAny_pure ?_; exact fin t1 rfl rfl rfl rfl)
        | (refine wp_if_neg hp ?_; try refine wpAny_bind (wpAny_pure ?_)
           exact fin t1 rfl rfl rfl rfl)
end
end Ml
/-! The mill, part 35: set(..) of a list or a tuple of four keys at most; sorted(..) of such a set. -/
namespace Ml
open PySem PySem.Spec L2 PyProof.Rows
/-- what a set has of the first i -/
structure Has (ks : List (Addr × NestedKey)) (i : Nat) (L : List (Addr × NestedKey)) : Prop where
  old : ∀ q ∈ L, q ∈ ks
  all : ∀ (j : Nat) q, j < i → ks[j]? = some q → q.2 ∈ L.map (·.2)
  len : L.length ≤ i
theorem Has.next {ks L L2 : List (Addr × NestedKey)} {i : Nat} {x : Addr × NestedKey} (g : Has ks i L) (e : ks[i]? = some x) (c : x.2 ∈ L.map (·.2) ∧ L2 = L ∨ x.2 ∉ L.map (·.2) ∧ L2.Perm (x :: L)) : Has ks (i + 1) L2 := by
  rcases c with ⟨c, rfl⟩ | ⟨_, pm⟩
  · refine ⟨g.old, fun j q hj hq => ?_, by have := g.len; omega⟩
    by_cases z : j = i
    · subst z; rw [e] at hq; cases hq; exact c
    · exact g.all j q (by omega) hq
  · refine ⟨fun q hq => ?_, fun j q hj hq => ?_, by rw [pm.length_eq, List.length_cons]; have := g.len; omega⟩
    · rcases List.mem_cons.mp (pm.mem_iff.mp hq) with z | z
      · rw [z]; exact List.mem_of_getElem? e
      · exact g.old q z
    · rw [(pm.map (·.2)).mem_iff, List.map_cons]
      by_cases z : j = i
      · subst z; rw [e] at hq; cases hq; exact List.mem_cons_self
      · exact List.mem_cons_of_mem _ (g.all j q (by omega) hq)
section
variable {P : Program} {w : World} {A : Around} {E : Value → Shared → Prop} {s : Shared}
/-- the loop of update -/
theorem upd_n {I : Addr} {fp wr : List Addr} {G : Array GenState → Array GenState → Prop} {n : Nat} {Pv : Nat → Value → Prop} {St : Nat → Shared → Prop} {R : Result → Shared → Prop} (W : WalksS P w A.in1 I fp wr G n Pv St) (S : Addr) (nf : S ∉ fp) (ks : List (Addr × NestedKey))
    (hn : n = ks.length) (few : ks.length ≤ 4) (val : ∀ i v, Pv i v → ∃ q, ks[i]? = some q ∧ v = .ref q.1) (h0 : Heap) (key : ∀ q ∈ ks, IsN h0 q.2 q.1) (s0 : h0.get? S = none) (w0 : ∀ b ∈ wr, h0.get? b = none) (hu : A.in1.units + 8 < cLine) :
    ∀ (k i : Nat) (s : Shared), i + k = n → St i s → (∀ b o, h0.get? b = some o → s.heap.get? b = some o) → (∃ L es ep t, SetN P w s.heap S L es ep t ∧ Has ks i L) →
      (∀ s1 L es ep t, Moved (S :: wr) G s s1 → SetN P w s1.heap S L es ep t → Has ks n L → (∀ b o, h0.get? b = some o → s1.heap.get? b = some o) → R (.ok (.ret .none)) s1) →
      codeAny (model P w) A (.builtin "set.update.loop" ⟨[.ref S, .ref I], []⟩) R s := by
  have nw : S ∉ wr := fun z => nf (W.sub _ z)
  have up : ∀ b ∈ wr, b ∈ S :: wr := fun b hb => List.mem_cons_of_mem _ hb
  have stays : ∀ {s s1 : Shared}, Moved wr G s s1 → (∀ b o, h0.get? b = some o → s.heap.get? b = some o) → ∀ b o, h0.get? b = some o → s1.heap.get? b = some o := fun m kp b o e => m.heap b o (fun z => by rw [w0 b z] at e; cases e) (kp b o e)
  have here : ∀ {s s1 : Shared} {L es ep t}, Moved wr G s s1 → SetN P w s.heap S L es ep t → (∀ q ∈ L, q ∈ ks) → (∀ b o, h0.get? b = some o → s1.heap.get? b = some o) → SetN P w s1.heap S L es ep t := fun {s s1 L es ep t} m R old kp => by
    obtain ⟨o, ho, r⟩ := R.obj
    exact ⟨⟨o, m.heap S o nw ho, r⟩, R.row, R.tab, R.dif, fun q hq => (key q (old q hq)).on fun c u _ _ hc _ => kp c u hc, R.led, R.msk, R.few⟩
  intro k
  induction k with
  | zero =>
    intro i s hk st kp ⟨L, es, ep, t, R1, g⟩ go
    obtain rfl : i = n := by omega
    refine codeAny_builtin F.entry_set_update_loop ?_
    rw [Around.under_plainId F.plain_set_update_loop _]
    refine (show wpAny _ A.in1 (pyNext (.ref I) >>= _) _ _ s from wpAny_bind (W.done s _ _ st fun s1 m => ?_))
    exact (show wpAny _ A.in1 (ret Value.none) _ _ s1 from wpAny_pure (go s1 L es ep t (m.mono up) (here m R1 g.old (stays m kp)) g (stays m kp)))
  | succ k ih =>
    intro i s hk st kp ⟨L, es, ep, t, R1, g⟩ go
    refine codeAny_builtin F.entry_set_update_loop ?_
    rw [Around.under_plainId F.plain_set_update_loop _]
    refine (show wpAny _ A.in1 (pyNext (.ref I) >>= _) _ _ s from wpAny_bind (W.item i s _ _ (by omega) st fun v s1 hv st1 m => ?_))
    obtain ⟨q, hq, rfl⟩ := val i v hv
    have kp1 := stays m kp
    have R2 := here m R1 g.old kp1
    have hx : IsN s1.heap q.2 q.1 := (key q (List.mem_of_getElem? hq)).on fun c u _ _ hc _ => kp1 c u hc
    refine (show wpAny _ A.in1 (holding [Value.ref q.1] (setAdd S (.ref q.1)) >>= _) _ _ s1 from wpAny_bind (wpAny_holding ?_))
    unfold setAdd
    refine wpAny_holding (wpAny_bind (pyHash_key _ _ _ _ _ hx.1 (by have := hx.2; omega) ?_))
    have il : i < ks.length := (List.getElem?_eq_some_iff.mp hq).1
    refine add_n (s := { s1 with toks := s1.toks + q.2.draws }) R2 hx hu (by have := g.len; omega) fun b h2 L2 es2 ep2 t2 sb R3 c => ?_
    have kp2 : ∀ b o, h0.get? b = some o → h2.get? b = some o := fun b o e => (sb.2 b (fun z => by rw [z, s0] at e; cases e)).trans (kp1 b o e)
    refine wpAny_pure ⟨plainId_quiet F.plain_set_update_loop _, ih (i + 1) _ (by omega) (W.frame _ s1 _ _ st1 (Nat.le_add_right _ _) fun b hb o e => ?_) kp2 ⟨L2, es2, ep2, t2, R3, g.next hq c⟩ fun s3 L3 es3 ep3 t3 m3 R4 g3 kp3 => ?_⟩
    · rw [sb.2 b (fun z => nf (z ▸ hb))]; exact e
    · refine go s3 L3 es3 ep3 t3 (Moved.trans W.gtrans ((m.mono up).then_heap (Nat.le_add_right _ _) fun b o hb e => ?_) m3) R4 g3 kp3
      rw [sb.2 b (fun z => hb (by rw [z]; exact List.mem_cons_self))]; exact e
theorem refs_at {ar : Array Value} {ks : List (Addr × NestedKey)} (e : ar.toList = ks.map fun q => Value.ref q.1) (i : Nat) (v : Value) (h : ar[i]? = some v) : ∃ q, ks[i]? = some q ∧ v = .ref q.1 := by
  have z : ar.toList[i]? = some v := by rw [Array.getElem?_toList]; exact h
  rw [e, List.getElem?_map] at z
  cases c : ks[i]? with
  | none => rw [c] at z; cases z
  | some q => rw [c] at z; cases z; exact ⟨q, rfl, rfl⟩
/-- the empty set of a call -/
abbrev setO (w : World) : Obj := { cls := .type "set", dict := none, data := .set #[] 0 (.fresh 0 0 (!w.params.followText "set-order")) }
theorem none_at {h : Heap} {b : Addr} (hb : h.objs.size ≤ b) : h.get? b = none := by
  cases q : h.get? b with
  | none => rfl
  | some o => exact absurd (Heap.lt_size q) (Nat.not_lt.mpr hb)
/-- set(xs) of a list or a tuple, by what its loop comes to -/
theorem set_walk {cl : String} {l : Addr} {ar : Array Value} (it : Obj) (T : Heap → Prop) {Q : Value → Shared → Prop} (calm : A.handled = none) (z1 : isSubtype (.type cl) (.type "set") = pure false) (z2 : isSubtype (.type cl) (.type "frozenset") = pure false) (z3 : (Value.type cl == Value.type "dict") = false)
    (ob : ∃ (od : Option Addr) (n : Nat) (os : Array (Option Value)), s.heap.get? l = some { cls := .type cl, dict := od, data := .seq ar n, slots := os })
    (iter : ∀ (A1 : Around) (E1 : Value → Shared → Prop) (Q1 : Value → Shared → Prop), Q1 (.ref (s.heap.push (setO w)).objs.size) { s with heap := (s.heap.push (setO w)).push it } → wpAny (model P w) A1 (pyIter (.ref l)) Q1 E1 { s with heap := s.heap.push (setO w) })
    (loop : ∀ (A1 : Around) (R : Result → Shared → Prop), A1.in1.handled = none → A1.in1.units = A.units + 3 → (∀ s3 : Shared, s3.gens = s.gens → s3.drawn = s.drawn → s3.os = s.os → T s3.heap → (∀ b o, s.heap.get? b = some o → s3.heap.get? b = some o) → R (.ok (.ret .none)) s3) →
      codeAny (model P w) A1 (.builtin "set.update.loop" ⟨[.ref s.heap.objs.size, .ref (s.heap.push (setO w)).objs.size], []⟩) R { s with heap := (s.heap.push (setO w)).push it })
    (go : ∀ (hp : Heap) (tk : Nat), T hp → (∀ b o, s.heap.get? b = some o → hp.get? b = some o) → Q (.ref s.heap.objs.size) { s with heap := hp, toks := tk }) : wpAny (model P w) A (call (.type "set") [.ref l]) Q E s := by
  obtain ⟨c, tl, mro⟩ := F.called_set.mro
  have made := F.called_set.made; have sub := F.called_set.sub
  refine wpAny_call (codeAny_of_tree (show wpAny _ _ (callAny (.type "set") _) _ _ _ from wpAny_pure ⟨Code.quiet_builtin _ (by decide +kernel), codeAny_builtin F.entry_type_call ?_⟩))
  rw [Around.under_plain (weight_type_call_type "set" [.ref l] []) rfl]
  have nt := F.called_set.notType; have cc := F.called_set.canCreate; have tc := F.typeCall_set_1 (.ref l)
  repeat (any_goals (first | assumption | wp_step))
  refine codeAny_mono (code_set_led1 (.ref l) (E := E) (Q₁ := fun ob s1 => ob = .ref s.heap.objs.size ∧ s1 = { s with heap := s.heap.push (setO w) }) ⟨rfl, rfl⟩) fun r s1 hr => ?_
  cases r with
  | error e => exact hr
  | ok fl =>
    cases fl with
    | ret ob1 =>
      obtain ⟨rfl, rfl⟩ := hr
      have at0 : (s.heap.push (setO w)).get? s.heap.objs.size = some (setO w) := Heap.get?_push_size _ rfl
      have typ : Shared.TypeIs { s with heap := s.heap.push (setO w) } (.ref s.heap.objs.size) "set" := ⟨_, at0, rfl⟩
      have look := F.called_set.init.lookup; have bound := F.called_set.init.bind (.ref s.heap.objs.size)
      repeat (any_goals (first | assumption | wp_step))
      refine codeAny_mono (codeAny_call_builtin (R := wants (fun r s2 => r = .none ∧ ∃ hp tk, s2 = { s with heap := hp, toks := tk } ∧ T hp ∧ ∀ b o, s.heap.get? b = some o → hp.get? b = some o) E)
        F.called_set.init.plain F.entry_set_init (check_set_init_1 typ ?_)) fun r2 s2 hr2 => ?_
      · have calm3 : A.in1.in1.in1.handled = none := by simp [calm]
        obtain ⟨od, n, os, lo⟩ := ob
        have lo1 : (s.heap.push (setO w)).get? l = some { cls := .type cl, dict := od, data := .seq ar n, slots := os } := Heap.get?_push_of_some _ lo
        unfold Builtin.«set.__init__» noKeywords Builtin.Frozenset.updateFrom
        generalize eqI : pyIter = it0
        wp_walk
        subst eqI
        refine iter _ _ _ (wpAny_bind (wpAny_runValue ?_))
        refine loop _ _ calm3 rfl fun s3 e1 e2 e3 th kp => ?_
        obtain ⟨hp3, g3, d3, tk3, os3⟩ := s3
        have e1 : g3 = s.gens := e1
        have e2 : d3 = s.drawn := e2
        have e3 : os3 = s.os := e3
        subst e1 e2 e3
        refine (show wpAny _ _ _ _ _ _ from wpAny_pure ?_)
        show wpAny _ _ (ret Value.none) _ _ _
        exact wpAny_pure ⟨rfl, hp3, tk3, rfl, th, kp⟩
      · cases r2 with
        | error e => exact hr2
        | ok fl2 =>
          cases fl2 with
          | ret r =>
            obtain ⟨rfl, hp, tk, rfl, th, kp⟩ := hr2
            repeat (any_goals (first | assumption | wp_step))
            exact go _ _ th kp
          | _ => exact hr2.elim
    | _ => exact hr.elim
/-- set(xs) of keys -/
theorem set_n {l : Addr} {ar : Array Value} (ks : List (Addr × NestedKey)) {Q : Value → Shared → Prop} (calm : A.handled = none) (isq : s.heap.IsList l ar ∨ s.heap.IsTuple l ar) (refs : ar.toList = ks.map fun q => Value.ref q.1) (key : ∀ q ∈ ks, IsN s.heap q.2 q.1) (few : ks.length ≤ 4) (hu : A.units + 16 < cLine)
    (go : ∀ (hp : Heap) (tk : Nat) L es ep t, SetN P w hp s.heap.objs.size L es ep t → Has ks ks.length L → (∀ b o, s.heap.get? b = some o → hp.get? b = some o) → Q (.ref s.heap.objs.size) { s with heap := hp, toks := tk }) : wpAny (model P w) A (call (.type "set") [.ref l]) Q E s := by
  have size : ar.size = ks.length := by rw [← Array.length_toList, refs, List.length_map]
  have at0 : (s.heap.push (setO w)).get? s.heap.objs.size = some (setO w) := Heap.get?_push_size _ rfl
  have lt : l < s.heap.objs.size := by rcases isq with ⟨_, q, _⟩ | ⟨_, q, _⟩ <;> exact Heap.lt_size q
  have apartI : l ≠ (s.heap.push (setO w)).objs.size := by rw [Heap.size_push]; exact Nat.ne_of_lt (Nat.lt_succ_of_lt lt)
  have apartS : s.heap.objs.size ∉ [(s.heap.push (setO w)).objs.size, l] := by
    rw [Heap.size_push]
    intro z
    rcases List.mem_cons.mp z with e | e
    · exact absurd e (Nat.ne_of_lt (Nat.lt_succ_self _))
    · exact absurd (List.mem_singleton.mp e) (Nat.ne_of_gt lt)
  have fresh : ∀ b ∈ [(s.heap.push (setO w)).objs.size], s.heap.get? b = none := fun b hb => none_at (by rw [List.mem_singleton.mp hb, Heap.size_push]; exact Nat.le_succ _)
  have last : ∀ (hp : Heap) (tk : Nat), (∃ L es ep t, SetN P w hp s.heap.objs.size L es ep t ∧ Has ks ks.length L) → (∀ b o, s.heap.get? b = some o → hp.get? b = some o) → Q (.ref s.heap.objs.size) { s with heap := hp, toks := tk } := fun hp tk ⟨L, es, ep, t, R, g⟩ kp => go hp tk L es ep t R g kp
  rcases isq with isl | isl
  · have isl1 : (s.heap.push (setO w)).IsList l ar := isl.push _
    obtain ⟨⟨oc, od, odt, os⟩, lo, lc, ln, ld⟩ := isl
    simp only at lc ld
    subst lc; subst ld
    refine set_walk { cls := .type "list_iterator", data := .fields #[.ref l, .int 0 0] } (fun hp => ∃ L es ep t, SetN P w hp s.heap.objs.size L es ep t ∧ Has ks ks.length L) calm F.sub_list_set F.sub_list_frozenset (by decide) ⟨_, _, _, lo⟩ (fun A1 E1 Q1 q => wpAny_pyIter_list isl1 q) (fun A1 R c1 u1 fin => ?_) last
    refine upd_n ((Walks.list c1 _ l apartI ar).toS) s.heap.objs.size apartS ks size few (refs_at refs) s.heap key (none_at (Nat.le_refl _)) fresh (by omega) ar.size 0 _ (by omega) ⟨⟨_, Heap.get?_push_size _ rfl, rfl, rfl⟩, (isl1.push _)⟩ (fun b o e => Heap.get?_push_of_some _ (Heap.get?_push_of_some _ e)) ⟨[], #[], 0, _, SetN.born (Heap.get?_push_of_some _ at0), ⟨fun q z => (by cases z), fun j q z => absurd z (Nat.not_lt_zero _), Nat.le_refl _⟩⟩ fun s3 L es ep t m R1 g kp => ?_
    rw [size] at g
    exact fin s3 m.gens m.drawn m.os ⟨L, es, ep, t, R1, g⟩ kp
  · have isl1 : (s.heap.push (setO w)).IsTuple l ar := isl.push _
    obtain ⟨⟨oc, od, odt, os⟩, lo, lc, ln, ld⟩ := isl
    simp only at lc ld
    subst lc; subst ld
    refine set_walk { cls := .type "tuple_iterator", data := .fields #[.ref l, .int 0 0] } (fun hp => ∃ L es ep t, SetN P w hp s.heap.objs.size L es ep t ∧ Has ks ks.length L) calm F.sub_tuple_set F.sub_tuple_frozenset (by decide) ⟨_, _, _, lo⟩ (fun A1 E1 Q1 q => wpAny_pyIter_tuple isl1 q) (fun A1 R c1 u1 fin => ?_) last
    refine upd_n ((Walks.tuple c1 _ l apartI ar).toS) s.heap.objs.size apartS ks size few (refs_at refs) s.heap key (none_at (Nat.le_refl _)) fresh (by omega) ar.size 0 _ (by omega) ⟨⟨_, Heap.get?_push_size _ rfl, rfl, rfl⟩, (isl1.push _)⟩ (fun b o e => Heap.get?_push_of_some _ (Heap.get?_push_of_some _ e)) ⟨[], #[], 0, _, SetN.born (Heap.get?_push_of_some _ at0), ⟨fun q z => (by cases z), fun j q z => absurd z (Nat.not_lt_zero _), Nat.le_refl _⟩⟩ fun s3 L es ep t m R1 g kp => ?_
    rw [size] at g
    exact fin s3 m.gens m.drawn m.os ⟨L, es, ep, t, R1, g⟩ kp
end
end Ml
/-! The mill, part 35: len(set(..)) of nested tuples, four at most. -/
namespace Ml
open PySem PySem.Spec L2 PyProof.Rows
mutual
def kOk : Nat → PyData → Bool
  | _, .none => true
  | _, .bool _ => true
  | _, .int _ => true
  | _, .str _ => true
  | n + 1, .tuple xs => kOks n xs
  | _, _ => false
def kOks : Nat → List PyData → Bool
  | _, [] => true
  | n, x :: xs => kOk n x && kOks n xs
end
mutual
def keyOf : PyData → NestedKey
  | .none => .none
  | .bool b => .num (if b = true then 1 else 0)
  | .int i => .num i
  | .str s => .text s
  | .tuple xs => .tup (keysOf xs)
  | .list _ => .none
  | .dict _ => .none
def keysOf : List PyData → List NestedKey
  | [] => []
  | x :: xs => keyOf x :: keysOf xs
end
mutual
theorem key_rd {h : Heap} : ∀ (n : Nat) (d : PyData) (v : Value) (as : List Addr), kOk n d = true → Reads h v d as → NestedIs h (keyOf d) v ∧ (keyOf d).depth ≤ n
  | n, .none, v, as, e, r => by cases r; exact ⟨by rw [keyOf]; exact .none, by rw [keyOf]; simp [NestedKey.depth]⟩
  | n, .bool b, v, as, e, r => by cases r; exact ⟨by rw [keyOf]; exact .bool rfl, by rw [keyOf]; simp [NestedKey.depth]⟩
  | n, .int i, v, as, e, r => by cases r; exact ⟨by rw [keyOf]; exact .int _ _, by rw [keyOf]; simp [NestedKey.depth]⟩
  | n, .str i, v, as, e, r => by cases r; exact ⟨by rw [keyOf]; exact .text _ _, by rw [keyOf]; simp [NestedKey.depth]⟩
  | n, .list _, v, as, e, r => by cases n <;> simp [kOk] at e
  | n, .dict _, v, as, e, r => by cases n <;> simp [kOk] at e
  | 0, .tuple xs, v, as, e, r => by simp [kOk] at e
  | n + 1, .tuple xs, v, as, e, r => by
    rw [kOk] at e
    cases r with
    | tuple h1 h2 h3 h4 =>
      obtain ⟨a1, a2⟩ := keys_rd n xs _ _ e h4
      rw [keyOf]
      exact ⟨.tup h1 h2 h3 a1, by simp only [NestedKey.depth]; omega⟩
theorem keys_rd {h : Heap} : ∀ (n : Nat) (ds : List PyData) (vs : List Value) (as : List Addr), kOks n ds = true → ReadsAll h vs ds as → NestedAll h (keysOf ds) vs ∧ NestedKey.depthAll (keysOf ds) ≤ n
  | n, [], vs, as, e, r => by cases r; exact ⟨by rw [keysOf]; exact .nil, by rw [keysOf]; simp [NestedKey.depthAll]⟩
  | n, d :: ds, vs, as, e, r => by
    have e' : (kOk n d && kOks n ds) = true := by
      have := e
      rw [kOks] at this
      exact this
    rw [Bool.and_eq_true] at e'
    cases r with
    | cons r1 r2 =>
      obtain ⟨a1, a2⟩ := key_rd n d _ _ e'.1 r1
      obtain ⟨b1, b2⟩ := keys_rd n ds _ _ e'.2 r2
      rw [keysOf]
      exact ⟨.cons a1 b1, by simp only [NestedKey.depthAll]; omega⟩
end
def isTup : PyData → Bool
  | .tuple _ => true
  | _ => false
def tupKey (p : PyData) : Bool := isTup p && kOk 8 p
theorem tup_refs {h : Heap} : ∀ {vs : List Value} {ps : List PyData} {as : List Addr}, ReadsAll h vs ps as → ps.all tupKey = true → ∃ ks : List (Addr × NestedKey), vs = (ks.map fun q => Value.ref q.1) ∧ ks.map (·.2) = ps.map keyOf ∧ ∀ q ∈ ks, IsN h q.2 q.1
  | [], [], _, _, _ => ⟨[], rfl, rfl, fun _ z => nomatch z⟩
  | _ :: _, [], _, r, _ => by cases r
  | [], _ :: _, _, r, _ => by cases r
  | v :: vs, p :: ps, as, r, e => by
    rw [List.all_cons, Bool.and_eq_true] at e
    obtain ⟨e1, e2⟩ := e
    unfold tupKey at e1
    rw [Bool.and_eq_true] at e1
    cases r with
    | cons r1 r2 =>
      obtain ⟨ks, rfl, k2, k3⟩ := tup_refs r2 e2
      obtain ⟨n1, n2⟩ := key_rd 8 p _ _ e1.2 r1
      cases p with
      | tuple xs =>
        cases r1 with
        | @tuple a _ _ _ _ _ h1 h2 h3 h4 =>
          refine ⟨(a, keyOf (.tuple xs)) :: ks, rfl, by rw [List.map_cons, k2]; rfl, fun q hq => ?_⟩
          rcases List.mem_cons.mp hq with rfl | hq
          · exact ⟨n1, n2⟩
          · exact k3 q hq
      | _ => exact absurd e1.1 (by simp [isTup])
def dedupK : List NestedKey → List NestedKey
  | [] => []
  | k :: ks => if k ∈ ks then dedupK ks else k :: dedupK ks
theorem mem_dedupK : ∀ {ks : List NestedKey} {k : NestedKey}, k ∈ dedupK ks ↔ k ∈ ks
  | [], k => Iff.rfl
  | x :: ks, k => by
    have ih := mem_dedupK (ks := ks) (k := k)
    unfold dedupK
    split
    · rename_i hx
      rw [ih, List.mem_cons]
      exact ⟨.inr, fun h => h.elim (fun e => e ▸ hx) id⟩
    · rw [List.mem_cons, List.mem_cons, ih]
theorem nodup_dedupK : ∀ {ks : List NestedKey}, (dedupK ks).Nodup
  | [] => List.nodup_nil
  | x :: ks => by
    have ih := nodup_dedupK (ks := ks)
    unfold dedupK
    split
    · exact ih
    · rename_i hx
      exact List.nodup_cons.mpr ⟨fun h => hx (mem_dedupK.mp h), ih⟩
theorem dedupK_id : ∀ {ks : List NestedKey}, ks.Nodup → dedupK ks = ks
  | [], _ => rfl
  | x :: ks, h => by
    obtain ⟨h1, h2⟩ := List.nodup_cons.mp h
    unfold dedupK
    rw [if_neg h1, dedupK_id h2]
theorem dedupK_lt : ∀ {ks : List NestedKey}, (dedupK ks).length ≤ ks.length
  | [] => Nat.le_refl _
  | x :: ks => by
    have ih := dedupK_lt (ks := ks)
    unfold dedupK
    split <;> simp <;> omega
theorem dedupK_full : ∀ {ks : List NestedKey}, (dedupK ks).length = ks.length → ks.Nodup
  | [], _ => List.nodup_nil
  | x :: ks, h => by
    have lt := dedupK_lt (ks := ks)
    unfold dedupK at h
    split at h
    · simp at h; omega
    · rename_i hx
      exact List.nodup_cons.mpr ⟨hx, dedupK_full (by simpa using h)⟩
def mLenSetT (m : ME) : ME := fun ρ h => (m ρ h).bind fun d h1 => match d with
  | .ref n => match anyAt h1 n with
    | some xs => match optAll (xs.map (toPy 12 h1)) with
      | some ps => if ps.length ≤ 4 ∧ ps.all tupKey = true then .ok (.int (dedupK (ps.map keyOf)).length) h1 else .no
      | none => .no
    | none => .no
  | _ => .no
def tLenSetT (K : PySem.W.Frag) (ta : TE) : TE := fun σ H Q => ta σ H fun x H1 => ∃ (l : Addr) (ws : List V) (ps : List PyData), x = .ref l ∧ SqL K H1 l ws ∧ DpAll K H1 ws ps ∧ ps.length ≤ 4 ∧ ps.all tupKey = true ∧ Q (.int (dedupK (ps.map keyOf)).length) H1
section
variable {X : Cx} {W : WX}
theorem pe_lenSetT {a : Expr} {ta : TE} {p p2 q pos : Pos} (hu : X.A.units + 20 < cLine) (hg : Gl X "len") (hm : X.mg "len" = none) (hg2 : Gl X "set") (hm2 : X.mg "set" = none) (ha : PE X a ta) (hc : X.calm = true := by rfl)
    (na : starEach [a] X.env = (false, eval a X.env) :: starEach [] X.env := by rfl) : PE X (.Call (.Name "len" p) [.Call (.Name "set" p2) [a] [] q] [] pos) (tLenSetT X.K ta) := by
  refine ⟨fun pins s σ H Q I h => ?_⟩
  refine PyProof.Rows.Call_ (ld_blt I hg hm PySem.boot_len ?_)
  refine PyProof.Rows.callWith_builtin1 (PyProof.Rows.args_cons ?_ rfl) rfl rfl
  refine PyProof.Rows.Call_ (ld_blt I hg2 hm2 PyProof.Rows.boot_set ?_)
  refine PyProof.Rows.callWith_type1 (PyProof.Rows.args_cons (thn (ha.run pins s σ H _ I h) fun v s1 ⟨x, H1, I1, r1, q1⟩ => PyProof.Rows.args_nil ?_) na) na rfl
  obtain ⟨l, ws, ps, rfl, hq, hd, hl, hk, q1⟩ := q1
  cases r1
  obtain ⟨its, rv, pl, hz⟩ := I1.list hq
  obtain ⟨as, rd⟩ := Dp.readsAll I1 _ _ _ hd rv
  obtain ⟨ks, k1, k2, k3⟩ := tup_refs rd hk
  have kl : ks.length = ps.length := by
    have := congrArg List.length k2
    simpa using this
  refine set_n (ar := its.toArray) ks (I1.ok.hd hc) (.inl pl.isList) (by simpa using k1) k3 (by omega) (by omega) fun hp tk L es ep t R g kp => ?_
  refine PyProof.Rows.args_nil ?_
  have I2 : Inv X pins σ H1 { s1 with heap := hp, toks := tk } := I1.kept fun b o e => kp b o e
  obtain ⟨o, ho, hex, hdt⟩ := R.obj
  have ll : L.length = (dedupK (ps.map keyOf)).length := by
    have pm : (L.map (·.2)).Perm (dedupK (ps.map keyOf)) := (List.perm_ext_iff_of_nodup R.dif nodup_dedupK).2 fun k => by
      rw [mem_dedupK, ← k2]
      constructor
      · intro hkm
        obtain ⟨z, hz, rfl⟩ := List.mem_map.mp hkm
        exact List.mem_map_of_mem (g.old z hz)
      · intro hkm
        obtain ⟨z, hz, rfl⟩ := List.mem_map.mp hkm
        obtain ⟨i, hi, e⟩ := List.getElem_of_mem hz
        exact g.all i z hi (by rw [List.getElem?_eq_getElem hi, e])
    have := pm.length_eq
    rw [List.length_map] at this
    exact this
  have few := R.few
  have sz := R.size
  refine PySem.call_len_set ho hex hdt R.fits (by omega) ⟨.int (dedupK (ps.map keyOf)).length, H1, I2.tok _, ⟨_, by rw [sz, ll]⟩, q1⟩
theorem u20 {k : Nat} {A : Around} (r : Room k A) : A.units + 20 < cLine := by have := r.un; omega
theorem d_lenSetT {a : Expr} {m : ME} {p p2 q pos : Pos} (hu : X.A.units + 20 < cLine) (hg : Gl X "len") (hm : X.mg "len" = none) (hg2 : Gl X "set") (hm2 : X.mg "set" = none) (ha : PE X a (tD X W m)) (hc : X.calm = true := by rfl)
    (na : starEach [a] X.env = (false, eval a X.env) :: starEach [] X.env := by rfl) : PE X (.Call (.Name "len" p) [.Call (.Name "set" p2) [a] [] q] [] pos) (tD X W (mLenSetT m)) := by
  refine pe_imp (pe_lenSetT hu hg hm hg2 hm2 ha hc na) fun σ H Q x => ?_
  refine tG.step x fun α1 ρ H1 d h1 v R1 E1 r1 o1 => ?_
  cases d with
  | ref n =>
    dsimp only at o1
    cases e1 : anyAt h1 n with
    | none => rw [e1] at o1; exact o1.elim
    | some xs =>
      rw [e1] at o1
      dsimp only at o1
      cases e2 : optAll (xs.map (toPy 12 h1)) with
      | none => rw [e2] at o1; exact o1.elim
      | some ps =>
        rw [e2] at o1
        dsimp only at o1
        split at o1
        · rename_i hz
          obtain ⟨a, vs, _, rfl, hs, rs⟩ := R1.any e1 r1
          exact ⟨a, vs, ps, rfl, hs, dpAll_of (fun d v p => toPy_dp R1 12 d v p) e2 rs, hz.1, hz.2, o1 α1 H1 _ .refl R1 rfl⟩
        · exact o1.elim
  | _ => exact o1.elim
end
end Ml
namespace K11
open PySem PySem.Spec L2 Ml
def topS (i : Nat) : Stmt := PySem.Challenge.pw_suredue_k11_letters_judged.main.body.getD i (.Pass ⟨0, 0, 0, 0⟩)
abbrev s_is_number : Stmt := topS 3
abbrev N_is_number : List Str := ["thing"]
theorem sc_is_number : FnScope N_is_number ["thing"] (defScope s_is_number) := ⟨rfl, rfl, rfl, by decide +kernel, rfl, by decide +kernel, by decide +kernel⟩
def b_is_number : MS := (mRet (mAnd (mCall isF (mCons (mVar 0) (mCons (mC (.ty .int)) mNil))) (mNot (mCall isF (mCons (mVar 0) (mCons (mC (.ty .bool)) mNil))))))
def g_is_number : List D → Sto → R D := runM 1 b_is_number
abbrev s_is_from : Stmt := topS 4
abbrev N_is_from : List Str := ["thing", "least"]
theorem sc_is_from : FnScope N_is_from ["thing", "least"] (defScope s_is_from) := ⟨rfl, rfl, rfl, by decide +kernel, rfl, by decide +kernel, by decide +kernel⟩
def b_is_from : MS := (mRet (mAnd (mFn 1 g_is_number (mCons (mVar 0) mNil)) (mBin geD (mVar 0) (mVar 1))))
def g_is_from : List D → Sto → R D := runM 2 b_is_from
abbrev s_is_below : Stmt := topS 5
abbrev N_is_below : List Str := ["thing", "many"]
theorem sc_is_below : FnScope N_is_below ["thing", "many"] (defScope s_is_below) := ⟨rfl, rfl, rfl, by decide +kernel, rfl, by decide +kernel, by decide +kernel⟩
def b_is_below : MS := (mRet (mAnd (mFn 2 g_is_from (mCons (mVar 0) (mCons (mC (.int 0)) mNil))) (mBin ltD (mVar 0) (mVar 1))))
def g_is_below : List D → Sto → R D := runM 2 b_is_below
abbrev s_is_tuple_of : Stmt := topS 6
abbrev N_is_tuple_of : List Str := ["thing", "many"]
theorem sc_is_tuple_of : FnScope N_is_tuple_of ["thing", "many"] (defScope s_is_tuple_of) := ⟨rfl, rfl, rfl, by decide +kernel, rfl, by decide +kernel, by decide +kernel⟩
def b_is_tuple_of : MS := (mRet (mAnd (mCall isF (mCons (mVar 0) (mCons (mC (.ty .tuple)) mNil))) (mBin eqD (mCall lenF (mCons (mVar 0) mNil)) (mVar 1))))
def g_is_tuple_of : List D → Sto → R D := runM 2 b_is_tuple_of
abbrev s_are_from : Stmt := topS 7
abbrev N_are_from : List Str := ["thing", "least", "part"]
theorem sc_are_from : FnScope N_are_from ["thing", "least"] (defScope s_are_from) := ⟨rfl, rfl, rfl, by decide +kernel, rfl, by decide +kernel, by decide +kernel⟩
def b_are_from : MS := (mRet (mAnd (mCall isF (mCons (mVar 0) (mCons (mC (.ty .tuple)) mNil))) (mCall allF (mCons (mLc (mSeq (mVar 0)) (.one 2) mYes (mFn 2 g_is_from (mCons (mVar 2) (mCons (mVar 1) mNil))) [2]) mNil))))
def g_are_from : List D → Sto → R D := runM 3 b_are_from
abbrev s_are_unlike : Stmt := topS 8
abbrev N_are_unlike : List Str := ["values"]
theorem sc_are_unlike : FnScope N_are_unlike ["values"] (defScope s_are_unlike) := ⟨rfl, rfl, rfl, by decide +kernel, rfl, by decide +kernel, by decide +kernel⟩
def b_are_unlike : MS := (mRet (mBin eqD (mLenSet (mVar 0)) (mCall lenF (mCons (mVar 0) mNil))))
def g_are_unlike : List D → Sto → R D := runM 1 b_are_unlike
abbrev s_at_place : Stmt := topS 9
abbrev N_at_place : List Str := ["row", "place"]
theorem sc_at_place : FnScope N_at_place ["row", "place"] (defScope s_at_place) := ⟨rfl, rfl, rfl, by decide +kernel, rfl, by decide +kernel, by decide +kernel⟩
def b_at_place : MS := (mSeqS (mIfS (mNotT (mTB (mChain leD ltD (mC (.int 0)) (mVar 1) (mCall lenF (mCons (mVar 0) mNil))))) (mRaise "NoPlace" "place" (mCons (mVar 1) mNil)) mNx) (mRet (mBin ixD (mVar 0) (mVar 1))))
def g_at_place : List D → Sto → R D := runM 2 b_at_place
abbrev s_is_image : Stmt := topS 11
abbrev N_is_image : List Str := ["thing"]
theorem sc_is_image : FnScope N_is_image ["thing"] (defScope s_is_image) := ⟨rfl, rfl, rfl, by decide +kernel, rfl, by decide +kernel, by decide +kernel⟩
def b_is_image : MS := (mRet (mAnd (mFn 2 g_is_tuple_of (mCons (mVar 0) (mCons (mC (.int 2)) mNil))) (mAnd (mBin eqD (mBin ixD (mVar 0) (mC (.int 0))) (mC (.str (PySem.Str.ofString "image")))) (mFn 2 g_is_from (mCons (mBin ixD (mVar 0) (mC (.int 1))) (mCons (mC (.int 0)) mNil))))))
def g_is_image : List D → Sto → R D := runM 1 b_is_image
abbrev s_is_lock : Stmt := topS 12
abbrev N_is_lock : List Str := ["thing", "payer", "amount", "image", "end"]
theorem sc_is_lock : FnScope N_is_lock ["thing"] (defScope s_is_lock) := ⟨rfl, rfl, rfl, by decide +kernel, rfl, by decide +kernel, by decide +kernel⟩
def b_is_lock : MS := (mSeqS (mIfS (mNotT (mTru (mFn 2 g_is_tuple_of (mCons (mVar 0) (mCons (mC (.int 4)) mNil))))) (mRet (mC (.bl false))) mNx) (mSeqS (mUnp (.many [1, 2, 3, 4]) (mVar 0)) (mRet (mAnd (mFn 2 g_is_below (mCons (mVar 1) (mCons (mC (.int 2)) mNil))) (mAnd (mFn 2 g_is_from (mCons (mVar 2) (mCons (mC (.int 1)) mNil))) (mAnd (mFn 1 g_is_image (mCons (mVar 3) mNil)) (mFn 2 g_is_from (mCons (mVar 4) (mCons (mC (.int 0)) mNil)))))))))
def g_is_lock : List D → Sto → R D := runM 5 b_is_lock
abbrev s__are_locks : Stmt := topS 13
abbrev N__are_locks : List Str := ["thing", "part", "lock"]
theorem sc__are_locks : FnScope N__are_locks ["thing"] (defScope s__are_locks) := ⟨rfl, rfl, rfl, by decide +kernel, rfl, by decide +kernel, by decide +kernel⟩
def b__are_locks : MS := (mSeqS (mIfS (mOrT (mNotT (mTru (mCall isF (mCons (mVar 0) (mCons (mC (.ty .tuple)) mNil))))) (mNotT (mTru (mCall allF (mCons (mLc (mSeq (mVar 0)) (.one 1) mYes (mFn 1 g_is_lock (mCons (mVar 1) mNil)) [1]) mNil))))) (mRet (mC (.bl false))) mNx) (mRet (mFn 1 g_are_unlike (mCons (mLc (mSeq (mVar 0)) (.one 2) mYes (mBin ixD (mBin ixD (mVar 2) (mC (.int 2))) (mC (.int 1))) [2]) mNil))))
def g__are_locks : List D → Sto → R D := runM 3 b__are_locks
abbrev s_first_sheet : Stmt := topS 15
abbrev N_first_sheet : List Str := ["net", "channel"]
theorem sc_first_sheet : FnScope N_first_sheet ["net", "channel"] (defScope s_first_sheet) := ⟨rfl, rfl, rfl, by decide +kernel, rfl, by decide +kernel, by decide +kernel⟩
def b_first_sheet : MS := (mRet (mTup (mCons (mVar 1) (mCons (mC (.int 0)) (mCons (mCall tupF (mCons (mSl (mFn 2 g_at_place (mCons (mVar 0) (mCons (mVar 1) mNil))) (mPart (mC (.int 2))) mNoP) mNil)) (mCons (mTup mNil) mNil))))))
def g_first_sheet : List D → Sto → R D := runM 2 b_first_sheet
abbrev s_total : Stmt := topS 16
abbrev N_total : List Str := ["sheet", "lock"]
theorem sc_total : FnScope N_total ["sheet"] (defScope s_total) := ⟨rfl, rfl, rfl, by decide +kernel, rfl, by decide +kernel, by decide +kernel⟩
def b_total : MS := (mRet (mBin addD (mCall sumF (mCons (mBin ixD (mVar 0) (mC (.int 2))) mNil)) (mCall sumF (mCons (mLc (mSeq (mBin ixD (mVar 0) (mC (.int 3)))) (.one 1) mYes (mBin ixD (mVar 1) (mC (.int 1))) [1]) mNil))))
def g_total : List D → Sto → R D := runM 2 b_total
abbrev s_channel_of : Stmt := topS 21
abbrev N_channel_of : List Str := ["letter"]
theorem sc_channel_of : FnScope N_channel_of ["letter"] (defScope s_channel_of) := ⟨rfl, rfl, rfl, by decide +kernel, rfl, by decide +kernel, by decide +kernel⟩
def b_channel_of : MS := (mRet (mIf (mTB (mBin inD (mBin ixD (mVar 0) (mC (.int 0))) (mC (.tup [.str (PySem.Str.ofString "offer"), .str (PySem.Str.ofString "agree")])))) (mBin ixD (mBin ixD (mVar 0) (mC (.int 1))) (mC (.int 0))) (mBin ixD (mVar 0) (mC (.int 1)))))
def g_channel_of : List D → Sto → R D := runM 1 b_channel_of
abbrev s__law_box : Stmt := topS 23
abbrev N__law_box : List Str := ["script", "k", "cell"]
theorem sc__law_box : FnScope N__law_box ["script", "k"] (defScope s__law_box) := ⟨rfl, rfl, rfl, by decide +kernel, rfl, by decide +kernel, by decide +kernel⟩
def b__law_box : MS := (mSeqS (mSet 2 (mIf (mTB (mBin ltD (mVar 1) (mCall lenF (mCons (mVar 0) mNil)))) (mBin ixD (mVar 0) (mVar 1)) (mC (.int 0)))) (mRet (mLst (mCons (mBin mulD (mCall absF (mCons (mVar 2) mNil)) (mCall intF (mCons (mBin geD (mCall absF (mCons (mVar 2) mNil)) (mBin (int2 powF) (mC (.int 10)) (mC (.int 18)))) mNil))) (mCons (mBin addD (mBin addD (mBin (int2 modF) (mCall intF (mCons (mVar 2) mNil)) (mC (.int 2305843009213693951))) (mBin mulD (mC (.int 39373)) (mVar 1))) (mC (.int 178011))) (mCons (mC (.int 0)) mNil))))))
def g__law_box : List D → Sto → R D := runM 3 b__law_box
abbrev s__law_take : Stmt := topS 24
abbrev N__law_take : List Str := ["urn", "low_so", "drawn", "once", "far", "twice"]
theorem sc__law_take : FnScope N__law_take ["urn", "low_so"] (defScope s__law_take) := ⟨rfl, rfl, rfl, by decide +kernel, rfl, by decide +kernel, by decide +kernel⟩
def b__law_take : MS := (mSeqS (mIfS (mTB (mBin gtD (mBin ixD (mVar 0) (mC (.int 0))) (mC (.int 0)))) (mSeqS (mSet 2 (mBin (int2 modF) (mCall intF (mCons (mBin ixD (mVar 0) (mC (.int 0))) mNil)) (mVar 1))) (mSeqS (mSub (mVar 0) (mC (.int 0)) (mBin (int2 fdivF) (mBin ixD (mVar 0) (mC (.int 0))) (mVar 1))) (mRet (mVar 2)))) mNx) (mSeqS (mSub (mVar 0) (mC (.int 2)) (mBin addD (mBin ixD (mVar 0) (mC (.int 2))) (mC (.int 1)))) (mSeqS (mSet 3 (mBin (int2 modF) (mCall intF (mCons (mBin mulD (mBin addD (mBin ixD (mVar 0) (mC (.int 1))) (mBin mulD (mC (.int 48271)) (mBin ixD (mVar 0) (mC (.int 2))))) (mBin addD (mC (.int 39373)) (mBin ixD (mVar 0) (mC (.int 2))))) mNil)) (mC (.int 2147483647)))) (mSeqS (mSet 4 (mBin addD (mBin (int2 modF) (mCall intF (mCons (mVar 3) mNil)) (mC (.int 40009))) (mC (.int 7)))) (mSeqS (mSet 5 (mBin (int2 modF) (mCall intF (mCons (mBin mulD (mBin addD (mBin addD (mVar 3) (mBin ixD (mVar 0) (mC (.int 2)))) (mBin (int2 fdivF) (mBin ixD (mVar 0) (mC (.int 1))) (mC (.int 1000003)))) (mVar 4)) mNil)) (mC (.int 2147483629)))) (mRet (mBin (int2 modF) (mCall intF (mCons (mBin (int2 fdivF) (mBin (int2 modF) (mCall intF (mCons (mBin addD (mBin mulD (mVar 5) (mC (.int 48271))) (mVar 3)) mNil)) (mC (.int 2147483587))) (mC (.int 64))) mNil)) (mVar 1))))))))
def g__law_take : List D → Sto → R D := runM 6 b__law_take
abbrev s__law_cells : Stmt := topS 25
abbrev N__law_cells : List Str := ["script", "top", "cells", "k", "cell", "at_so"]
theorem sc__law_cells : FnScope N__law_cells ["script", "top"] (defScope s__law_cells) := ⟨rfl, rfl, rfl, by decide +kernel, rfl, by decide +kernel, by decide +kernel⟩
def b__law_cells : MS := (mSeqS (mSet 2 (mOr (mCall listF (mCons (mSl (mVar 0) mNoP (mPart (mVar 1))) mNil)) (mLst (mCons (mC (.int 0)) mNil)))) (mSeqS (mFor (mWk enF (mCons (mSl (mVar 0) (mPart (mVar 1)) (mPart (mC (.int 63)))) mNil)) (.many [3, 4]) (mSeqS (mSet 5 (mBin (int2 modF) (mCall intF (mCons (mVar 3) mNil)) (mVar 1))) (mSub (mVar 2) (mVar 5) (mBin addD (mBin ixD (mVar 2) (mVar 5)) (mBin mulD (mVar 4) (mBin addD (mVar 3) (mC (.int 2)))))))) (mRet (mVar 2))))
def g__law_cells : List D → Sto → R D := runM 6 b__law_cells
abbrev s__law_of : Stmt := topS 26
abbrev N__law_of : List Str := ["urn", "some_so"]
theorem sc__law_of : FnScope N__law_of ["urn", "some_so"] (defScope s__law_of) := ⟨rfl, rfl, rfl, by decide +kernel, rfl, by decide +kernel, by decide +kernel⟩
def b__law_of : MS := (mRet (mBin ixD (mVar 1) (mFn 2 g__law_take (mCons (mVar 0) (mCons (mCall lenF (mCons (mVar 1) mNil)) mNil)))))
def g__law_of : List D → Sto → R D := runM 2 b__law_of
abbrev s__law_lists : Stmt := topS 27
abbrev N__law_lists : List Str := ["matter", "bit"]
theorem sc__law_lists : FnScope N__law_lists ["matter"] (defScope s__law_lists) := ⟨rfl, rfl, rfl, by decide +kernel, rfl, by decide +kernel, by decide +kernel⟩
def b__law_lists (self : List D → Sto → R D) : MS := (mRet (mIf (mTru (mIsT (mVar 0) (mCons (mC (.ty .list)) (mCons (mC (.ty .tuple)) mNil)))) (mLc (mSeq (mVar 0)) (.one 1) mYes (mFn 1 self (mCons (mVar 1) mNil)) [1]) (mVar 0)))
def g__law_lists' : Nat → List D → Sto → R D
  | 0 => fun _ _ => .no
  | k + 1 => runM 2 (b__law_lists (g__law_lists' k))
abbrev g__law_lists := g__law_lists' 20
abbrev s__law_same : Stmt := topS 28
abbrev N__law_same : List Str := ["got", "goal", "mine_so", "own"]
theorem sc__law_same : FnScope N__law_same ["got", "goal"] (defScope s__law_same) := ⟨rfl, rfl, rfl, by decide +kernel, rfl, by decide +kernel, by decide +kernel⟩
def b__law_same (self : List D → Sto → R D) : MS := (mSeqS (mIfS (mTru (mIsT (mVar 1) (mCons (mC (.ty .list)) (mCons (mC (.ty .tuple)) mNil)))) (mSeqS (mIfS (mOrT (mTB (mBin neD (mCall isF (mCons (mVar 0) (mCons (mC (.ty .list)) mNil))) (mCall isF (mCons (mVar 1) (mCons (mC (.ty .list)) mNil))))) (mTB (mBin neD (mCall isF (mCons (mVar 0) (mCons (mC (.ty .tuple)) mNil))) (mCall isF (mCons (mVar 1) (mCons (mC (.ty .tuple)) mNil)))))) (mRet (mC (.bl false))) mNx) (mRet (mAnd (mBin eqD (mCall lenF (mCons (mVar 0) mNil)) (mCall lenF (mCons (mVar 1) mNil))) (mCall allF (mCons (mLc (mWk zipF (mCons (mVar 0) (mCons (mVar 1) mNil))) (.many [2, 3]) mYes (mFn 2 self (mCons (mVar 2) (mCons (mVar 3) mNil))) [2, 3]) mNil))))) mNx) (mSeqS (mIfS (mOrT (mTB (mBin isND (mVar 1) (mC .non))) (mTru (mIsT (mVar 1) (mCons (mC (.ty .bool)) (mCons (mC (.ty .str)) mNil))))) (mRet (mAnd (mBin eqD (mVar 0) (mVar 1)) (mAnd (mBin eqD (mCall isF (mCons (mVar 0) (mCons (mC (.ty .bool)) mNil))) (mCall isF (mCons (mVar 1) (mCons (mC (.ty .bool)) mNil)))) (mBin eqD (mBin isND (mVar 0) (mC .non)) (mBin isND (mVar 1) (mC .non)))))) mNx) (mRet (mAnd (mCall isF (mCons (mVar 0) (mCons (mC (.ty .int)) mNil))) (mAnd (mNot (mCall isF (mCons (mVar 0) (mCons (mC (.ty .bool)) mNil)))) (mBin eqD (mVar 0) (mVar 1)))))))
def g__law_same' : Nat → List D → Sto → R D
  | 0 => fun _ _ => .no
  | k + 1 => runM 4 (b__law_same (g__law_same' k))
abbrev g__law_same := g__law_same' 20
abbrev s__law_pick : Stmt := topS 29
abbrev N__law_pick : List Str := ["urn", "goods_so", "many", "pool", "found", "lap"]
theorem sc__law_pick : FnScope N__law_pick ["urn", "goods_so", "many"] (defScope s__law_pick) := ⟨rfl, rfl, rfl, by decide +kernel, rfl, by decide +kernel, by decide +kernel⟩
def b__law_pick : MS := (mSeqS (mPar 3 4 (mCall listF (mCons (mVar 1) mNil)) (mLst mNil)) (mSeqS (mFor (mWk rng1F (mCons (mCall minF (mCons (mVar 2) (mCons (mCall lenF (mCons (mVar 3) mNil)) mNil))) mNil)) (.one 5) (mDrop (mApp (mVar 4) (mPopA (mVar 3) (mFn 2 g__law_take (mCons (mVar 0) (mCons (mCall lenF (mCons (mVar 3) mNil)) mNil))))))) (mRet (mVar 4))))
def g__law_pick : List D → Sto → R D := runM 6 b__law_pick
abbrev s__law_net : Stmt := topS 30
abbrev N__law_net : List Str := []
theorem sc__law_net : FnScope N__law_net [] (defScope s__law_net) := ⟨rfl, rfl, rfl, by decide +kernel, rfl, by decide +kernel, by decide +kernel⟩
def b__law_net : MS := (mRet (mTup (mCons (mTup (mCons (mC (.int 0)) (mCons (mC (.int 1)) (mCons (mC (.int 10)) (mCons (mC (.int 5)) mNil))))) (mCons (mTup (mCons (mC (.int 1)) (mCons (mC (.int 2)) (mCons (mC (.int 8)) (mCons (mC (.int 0)) mNil))))) mNil))))
def g__law_net : List D → Sto → R D := runM 0 b__law_net
abbrev s__law_lent : Stmt := topS 31
abbrev N__law_lent : List Str := []
theorem sc__law_lent : FnScope N__law_lent [] (defScope s__law_lent) := ⟨rfl, rfl, rfl, by decide +kernel, rfl, by decide +kernel, by decide +kernel⟩
def b__law_lent : MS := (mRet (mTup (mCons (mC (.int 0)) (mCons (mC (.int 3)) (mCons (mTup (mCons (mC (.int 6)) (mCons (mC (.int 5)) mNil))) (mCons (mTup (mCons (mTup (mCons (mC (.int 0)) (mCons (mC (.int 4)) (mCons (mTup (mCons (mC (.str (PySem.Str.ofString "image"))) (mCons (mC (.int 7)) mNil))) (mCons (mC (.int 40)) mNil))))) mNil)) mNil))))))
def g__law_lent : List D → Sto → R D := runM 0 b__law_lent
abbrev s__law_locks : Stmt := topS 32
abbrev N__law_locks : List Str := ["urn", "most", "found", "secret"]
theorem sc__law_locks : FnScope N__law_locks ["urn", "most"] (defScope s__law_locks) := ⟨rfl, rfl, rfl, by decide +kernel, rfl, by decide +kernel, by decide +kernel⟩
def b__law_locks : MS := (mSeqS (mSet 2 (mLst mNil)) (mSeqS (mFor (mSeq (mFn 3 g__law_pick (mCons (mVar 0) (mCons (mLst (mCons (mC (.int 0)) (mCons (mC (.int 1)) (mCons (mC (.int 2)) (mCons (mC (.int 7)) (mCons (mC (.int 30)) mNil)))))) (mCons (mFn 2 g__law_take (mCons (mVar 0) (mCons (mBin addD (mVar 1) (mC (.int 1))) mNil))) mNil))))) (.one 3) (mDrop (mApp (mVar 2) (mTup (mCons (mFn 2 g__law_take (mCons (mVar 0) (mCons (mC (.int 2)) mNil))) (mCons (mBin addD (mC (.int 1)) (mFn 2 g__law_take (mCons (mVar 0) (mCons (mC (.int 9)) mNil)))) (mCons (mTup (mCons (mC (.str (PySem.Str.ofString "image"))) (mCons (mVar 3) mNil))) (mCons (mFn 2 g__law_take (mCons (mVar 0) (mCons (mC (.int 60)) mNil))) mNil)))))))) (mRet (mCall tupF (mCons (mVar 2) mNil)))))
def g__law_locks : List D → Sto → R D := runM 4 b__law_locks
abbrev s__law_is_count : Stmt := topS 33
abbrev N__law_is_count : List Str := ["own"]
theorem sc__law_is_count : FnScope N__law_is_count ["own"] (defScope s__law_is_count) := ⟨rfl, rfl, rfl, by decide +kernel, rfl, by decide +kernel, by decide +kernel⟩
def b__law_is_count : MS := (mRet (mAnd (mCall isF (mCons (mVar 0) (mCons (mC (.ty .int)) mNil))) (mAnd (mNot (mCall isF (mCons (mVar 0) (mCons (mC (.ty .bool)) mNil)))) (mBin geD (mVar 0) (mC (.int 0))))))
def g__law_is_count : List D → Sto → R D := runM 1 b__law_is_count
abbrev s__law_is_image : Stmt := topS 34
abbrev N__law_is_image : List Str := ["own"]
theorem sc__law_is_image : FnScope N__law_is_image ["own"] (defScope s__law_is_image) := ⟨rfl, rfl, rfl, by decide +kernel, rfl, by decide +kernel, by decide +kernel⟩
def b__law_is_image : MS := (mRet (mAnd (mCall isF (mCons (mVar 0) (mCons (mC (.ty .tuple)) mNil))) (mAnd (mBin eqD (mCall lenF (mCons (mVar 0) mNil)) (mC (.int 2))) (mAnd (mCall isF (mCons (mBin ixD (mVar 0) (mC (.int 0))) (mCons (mC (.ty .str)) mNil))) (mAnd (mBin eqD (mBin ixD (mVar 0) (mC (.int 0))) (mC (.str (PySem.Str.ofString "image")))) (mFn 1 g__law_is_count (mCons (mBin ixD (mVar 0) (mC (.int 1))) mNil)))))))
def g__law_is_image : List D → Sto → R D := runM 1 b__law_is_image
abbrev s__law_is_lock : Stmt := topS 35
abbrev N__law_is_lock : List Str := ["own"]
theorem sc__law_is_lock : FnScope N__law_is_lock ["own"] (defScope s__law_is_lock) := ⟨rfl, rfl, rfl, by decide +kernel, rfl, by decide +kernel, by decide +kernel⟩
def b__law_is_lock : MS := (mSeqS (mIfS (mOrT (mNotT (mTru (mCall isF (mCons (mVar 0) (mCons (mC (.ty .tuple)) mNil))))) (mOrT (mTB (mBin neD (mCall lenF (mCons (mVar 0) mNil)) (mC (.int 4)))) (mNotT (mTru (mFn 1 g__law_is_image (mCons (mBin ixD (mVar 0) (mC (.int 2))) mNil)))))) (mRet (mC (.bl false))) mNx) (mSeqS (mIfS (mOrT (mNotT (mTru (mFn 1 g__law_is_count (mCons (mBin ixD (mVar 0) (mC (.int 0))) mNil)))) (mOrT (mNotT (mTru (mFn 1 g__law_is_count (mCons (mBin ixD (mVar 0) (mC (.int 1))) mNil)))) (mNotT (mTru (mFn 1 g__law_is_count (mCons (mBin ixD (mVar 0) (mC (.int 3))) mNil)))))) (mRet (mC (.bl false))) mNx) (mRet (mAnd (mBin ltD (mBin ixD (mVar 0) (mC (.int 0))) (mC (.int 2))) (mBin gtD (mBin ixD (mVar 0) (mC (.int 1))) (mC (.int 0)))))))
def g__law_is_lock : List D → Sto → R D := runM 1 b__law_is_lock
abbrev s__law_is_sheet : Stmt := topS 36
abbrev N__law_is_sheet : List Str := ["net_so", "own", "its", "images_so", "room"]
theorem sc__law_is_sheet : FnScope N__law_is_sheet ["net_so", "own"] (defScope s__law_is_sheet) := ⟨rfl, rfl, rfl, by decide +kernel, rfl, by decide +kernel, by decide +kernel⟩
def b__law_is_sheet : MS := (mSeqS (mIfS (mOrT (mNotT (mTru (mCall isF (mCons (mVar 1) (mCons (mC (.ty .tuple)) mNil))))) (mOrT (mTB (mBin neD (mCall lenF (mCons (mVar 1) mNil)) (mC (.int 4)))) (mOrT (mNotT (mTru (mFn 1 g__law_is_count (mCons (mBin ixD (mVar 1) (mC (.int 0))) mNil)))) (mOrT (mNotT (mTru (mFn 1 g__law_is_count (mCons (mBin ixD (mVar 1) (mC (.int 1))) mNil)))) (mTB (mBin geD (mBin ixD (mVar 1) (mC (.int 0))) (mCall lenF (mCons (mVar 0) mNil)))))))) (mRet (mC (.bl false))) mNx) (mSeqS (mIfS (mOrT (mNotT (mTru (mCall isF (mCons (mBin ixD (mVar 1) (mC (.int 2))) (mCons (mC (.ty .tuple)) mNil))))) (mOrT (mTB (mBin neD (mCall lenF (mCons (mBin ixD (mVar 1) (mC (.int 2))) mNil)) (mC (.int 2)))) (mTB (mBin neD (mLc (mSeq (mBin ixD (mVar 1) (mC (.int 2)))) (.one 2) (mNotT (mTru (mFn 1 g__law_is_count (mCons (mVar 2) mNil)))) (mC (.int 1)) [2]) (mLst mNil))))) (mRet (mC (.bl false))) mNx) (mSeqS (mIfS (mOrT (mNotT (mTru (mCall isF (mCons (mBin ixD (mVar 1) (mC (.int 3))) (mCons (mC (.ty .tuple)) mNil))))) (mTB (mBin neD (mLc (mSeq (mBin ixD (mVar 1) (mC (.int 3)))) (.one 2) (mNotT (mTru (mFn 1 g__law_is_lock (mCons (mVar 2) mNil)))) (mC (.int 1)) [2]) (mLst mNil)))) (mRet (mC (.bl false))) mNx) (mSeqS (mSet 3 (mLc (mSeq (mBin ixD (mVar 1) (mC (.int 3)))) (.one 2) mYes (mBin ixD (mVar 2) (mC (.int 2))) [2])) (mSeqS (mSet 4 (mBin addD (mBin ixD (mBin ixD (mVar 0) (mBin ixD (mVar 1) (mC (.int 0)))) (mC (.int 2))) (mBin ixD (mBin ixD (mVar 0) (mBin ixD (mVar 1) (mC (.int 0)))) (mC (.int 3))))) (mSeqS (mIfS (mOrT (mTB (mBin neD (mLenSetT (mVar 3)) (mCall lenF (mCons (mVar 3) mNil)))) (mTB (mBin neD (mBin addD (mCall sumF (mCons (mBin ixD (mVar 1) (mC (.int 2))) mNil)) (mCall sumF (mCons (mLc (mSeq (mBin ixD (mVar 1) (mC (.int 3)))) (.one 2) mYes (mBin ixD (mVar 2) (mC (.int 1))) [2]) mNil))) (mVar 4)))) (mRet (mC (.bl false))) mNx) (mRet (mOr (mBin gtD (mBin ixD (mVar 1) (mC (.int 1))) (mC (.int 0))) (mAnd (mBin eqD (mBin ixD (mVar 1) (mC (.int 2))) (mSl (mBin ixD (mVar 0) (mBin ixD (mVar 1) (mC (.int 0)))) (mPart (mC (.int 2))) mNoP)) (mBin eqD (mBin ixD (mVar 1) (mC (.int 3))) (mTup mNil)))))))))))
def g__law_is_sheet : List D → Sto → R D := runM 5 b__law_is_sheet
abbrev s__law_is_letter : Stmt := topS 37
abbrev N__law_is_letter : List Str := ["net_so", "own", "its"]
theorem sc__law_is_letter : FnScope N__law_is_letter ["net_so", "own"] (defScope s__law_is_letter) := ⟨rfl, rfl, rfl, by decide +kernel, rfl, by decide +kernel, by decide +kernel⟩
def b__law_is_letter : MS := (mSeqS (mIfS (mOrT (mNotT (mTru (mCall isF (mCons (mVar 1) (mCons (mC (.ty .tuple)) mNil))))) (mOrT (mTB (mBin ltD (mCall lenF (mCons (mVar 1) mNil)) (mC (.int 2)))) (mNotT (mTru (mCall isF (mCons (mBin ixD (mVar 1) (mC (.int 0))) (mCons (mC (.ty .str)) mNil))))))) (mRet (mC (.bl false))) mNx) (mSeqS (mIfS (mTB (mBin inD (mBin ixD (mVar 1) (mC (.int 0))) (mTup (mCons (mC (.str (PySem.Str.ofString "offer"))) (mCons (mC (.str (PySem.Str.ofString "agree"))) mNil))))) (mRet (mAnd (mBin eqD (mCall lenF (mCons (mVar 1) mNil)) (mC (.int 2))) (mFn 2 g__law_is_sheet (mCons (mVar 0) (mCons (mBin ixD (mVar 1) (mC (.int 1))) mNil))))) mNx) (mSeqS (mIfS (mOrT (mTB (mBin notInD (mBin ixD (mVar 1) (mC (.int 0))) (mTup (mCons (mC (.str (PySem.Str.ofString "turn"))) (mCons (mC (.str (PySem.Str.ofString "secret"))) (mCons (mC (.str (PySem.Str.ofString "pass"))) mNil)))))) (mOrT (mNotT (mTru (mFn 1 g__law_is_count (mCons (mBin ixD (mVar 1) (mC (.int 1))) mNil)))) (mTB (mBin geD (mBin ixD (mVar 1) (mC (.int 1))) (mCall lenF (mCons (mVar 0) mNil)))))) (mRet (mC (.bl false))) mNx) (mSeqS (mIfS (mTB (mBin neD (mBin ixD (mVar 1) (mC (.int 0))) (mC (.str (PySem.Str.ofString "pass"))))) (mRet (mAnd (mBin eqD (mCall lenF (mCons (mVar 1) mNil)) (mC (.int 3))) (mFn 1 g__law_is_count (mCons (mBin ixD (mVar 1) (mC (.int 2))) mNil)))) mNx) (mSeqS (mIfS (mOrT (mTB (mBin neD (mCall lenF (mCons (mVar 1) mNil)) (mC (.int 5)))) (mOrT (mNotT (mTru (mFn 1 g__law_is_image (mCons (mBin ixD (mVar 1) (mC (.int 2))) mNil)))) (mOrT (mNotT (mTru (mCall isF (mCons (mBin ixD (mVar 1) (mC (.int 3))) (mCons (mC (.ty .tuple)) mNil))))) (mNotT (mTru (mCall isF (mCons (mBin ixD (mVar 1) (mC (.int 4))) (mCons (mC (.ty .tuple)) mNil)))))))) (mRet (mC (.bl false))) mNx) (mSeqS (mIfS (mOrT (mTB (mBin neD (mLc (mSeq (mBin addD (mBin ixD (mVar 1) (mC (.int 3))) (mBin ixD (mVar 1) (mC (.int 4))))) (.one 2) (mNotT (mTru (mFn 1 g__law_is_count (mCons (mVar 2) mNil)))) (mC (.int 1)) [2]) (mLst mNil))) (mTB (mBin neD (mCall lenF (mCons (mBin ixD (mVar 1) (mC (.int 3))) mNil)) (mCall lenF (mCons (mBin ixD (mVar 1) (mC (.int 4))) mNil))))) (mRet (mC (.bl false))) mNx) (mRet (mBin eqD (mLc (mSeq (mBin ixD (mVar 1) (mC (.int 3)))) (.one 2) (mTB (mBin geD (mVar 2) (mCall lenF (mCons (mVar 0) mNil)))) (mC (.int 1)) [2]) (mLst mNil)))))))))
def g__law_is_letter : List D → Sto → R D := runM 3 b__law_is_letter
abbrev s__law_fair_sheet : Stmt := topS 38
abbrev N__law_fair_sheet : List Str := ["urn", "channel", "locks_so", "own", "left", "one"]
theorem sc__law_fair_sheet : FnScope N__law_fair_sheet ["urn"] (defScope s__law_fair_sheet) := ⟨rfl, rfl, rfl, by decide +kernel, rfl, by decide +kernel, by decide +kernel⟩
def b__law_fair_sheet : MS := (mSeqS (mSet 1 (mFn 2 g__law_take (mCons (mVar 0) (mCons (mC (.int 2)) mNil)))) (mSeqS (mSet 2 (mCall tupF (mCons (mLc (mSeq (mFn 2 g__law_locks (mCons (mVar 0) (mCons (mC (.int 3)) mNil)))) (.one 3) mYes (mBin addD (mBin addD (mSl (mVar 3) mNoP (mPart (mC (.int 1)))) (mTup (mCons (mBin addD (mC (.int 1)) (mFn 2 g__law_take (mCons (mVar 0) (mCons (mC (.int 2)) mNil)))) mNil))) (mSl (mVar 3) (mPart (mC (.int 2))) mNoP)) [3]) mNil))) (mSeqS (mSet 4 (mBin (int2 subF) (mCall sumF (mCons (mSl (mBin ixD (mFn0 g__law_net) (mVar 1)) (mPart (mC (.int 2))) mNoP) mNil)) (mCall sumF (mCons (mLc (mSeq (mVar 2)) (.one 3) mYes (mBin ixD (mVar 3) (mC (.int 1))) [3]) mNil)))) (mSeqS (mSet 5 (mFn 2 g__law_take (mCons (mVar 0) (mCons (mBin addD (mVar 4) (mC (.int 1))) mNil)))) (mRet (mTup (mCons (mVar 1) (mCons (mBin addD (mC (.int 1)) (mFn 2 g__law_take (mCons (mVar 0) (mCons (mC (.int 9)) mNil)))) (mCons (mTup (mCons (mVar 5) (mCons (mBin (int2 subF) (mVar 4) (mVar 5)) mNil))) (mCons (mVar 2) mNil))))))))))
def g__law_fair_sheet : List D → Sto → R D := runM 6 b__law_fair_sheet
abbrev s__law_fair : Stmt := topS 39
abbrev N__law_fair : List Str := ["urn", "way", "many", "route", "ends", "lap"]
theorem sc__law_fair : FnScope N__law_fair ["urn"] (defScope s__law_fair) := ⟨rfl, rfl, rfl, by decide +kernel, rfl, by decide +kernel, by decide +kernel⟩
def b__law_fair : MS := (mSeqS (mSet 1 (mFn 2 g__law_take (mCons (mVar 0) (mCons (mC (.int 5)) mNil)))) (mSeqS (mIfS (mTB (mBin ltD (mVar 1) (mC (.int 2)))) (mRet (mTup (mCons (mBin ixD (mLst (mCons (mC (.str (PySem.Str.ofString "offer"))) (mCons (mC (.str (PySem.Str.ofString "agree"))) mNil))) (mVar 1)) (mCons (mFn 1 g__law_fair_sheet (mCons (mVar 0) mNil)) mNil)))) mNx) (mSeqS (mIfS (mTB (mBin ltD (mVar 1) (mC (.int 4)))) (mRet (mTup (mCons (mBin ixD (mLst (mCons (mC (.str (PySem.Str.ofString "turn"))) (mCons (mC (.str (PySem.Str.ofString "secret"))) mNil))) (mBin (int2 subF) (mVar 1) (mC (.int 2)))) (mCons (mFn 2 g__law_take (mCons (mVar 0) (mCons (mC (.int 2)) mNil))) (mCons (mFn 2 g__law_take (mCons (mVar 0) (mCons (mC (.int 40)) mNil))) mNil))))) mNx) (mSeqS (mSet 2 (mFn 2 g__law_take (mCons (mVar 0) (mCons (mC (.int 3)) mNil)))) (mSeqS (mPar 3 4 (mLc (mWk rng1F (mCons (mVar 2) mNil)) (.one 5) mYes (mFn 2 g__law_take (mCons (mVar 0) (mCons (mC (.int 2)) mNil))) [5]) (mLc (mWk rng1F (mCons (mVar 2) mNil)) (.one 5) mYes (mFn 2 g__law_take (mCons (mVar 0) (mCons (mC (.int 60)) mNil))) [5])) (mRet (mTup (mCons (mC (.str (PySem.Str.ofString "pass"))) (mCons (mFn 2 g__law_take (mCons (mVar 0) (mCons (mC (.int 2)) mNil))) (mCons (mTup (mCons (mC (.str (PySem.Str.ofString "image"))) (mCons (mFn 2 g__law_take (mCons (mVar 0) (mCons (mC (.int 9)) mNil))) mNil))) (mCons (mCall tupF (mCons (mVar 3) mNil)) (mCons (mCall tupF (mCons (mVar 4) mNil)) mNil))))))))))))
def g__law_fair : List D → Sto → R D := runM 6 b__law_fair
abbrev s__law_bent : Stmt := topS 40
abbrev N__law_bent : List Str := ["urn", "matter", "k"]
theorem sc__law_bent : FnScope N__law_bent ["urn", "matter"] (defScope s__law_bent) := ⟨rfl, rfl, rfl, by decide +kernel, rfl, by decide +kernel, by decide +kernel⟩
def b__law_bent (self : List D → Sto → R D) : MS := (mSeqS (mIfS (mAndT (mTru (mCall isF (mCons (mVar 1) (mCons (mC (.ty .tuple)) mNil)))) (mAndT (mTB (mBin neD (mVar 1) (mTup mNil))) (mTB (mBin gtD (mFn 2 g__law_take (mCons (mVar 0) (mCons (mC (.int 4)) mNil))) (mC (.int 0)))))) (mSeqS (mSet 2 (mFn 2 g__law_take (mCons (mVar 0) (mCons (mCall lenF (mCons (mVar 1) mNil)) mNil)))) (mRet (mBin addD (mBin addD (mSl (mVar 1) mNoP (mPart (mVar 2))) (mTup (mCons (mFn 2 self (mCons (mVar 0) (mCons (mBin ixD (mVar 1) (mVar 2)) mNil))) mNil))) (mSl (mVar 1) (mPart (mBin addD (mVar 2) (mC (.int 1)))) mNoP)))) mNx) (mSeqS (mIfS (mTru (mCall isF (mCons (mVar 1) (mCons (mC (.ty .tuple)) mNil)))) (mRet (mFn 2 g__law_of (mCons (mVar 0) (mCons (mLst (mCons (mCall listF (mCons (mVar 1) mNil)) (mCons (mBin addD (mVar 1) (mTup (mCons (mC (.int 0)) mNil))) (mCons (mSl (mVar 1) mNoP (mPart (mNeg (mC (.int 1))))) (mCons (mRevX (mVar 1)) (mCons (mC .non) mNil)))))) mNil)))) mNx) (mSeqS (mIfS (mTru (mCall isF (mCons (mVar 1) (mCons (mC (.ty .int)) mNil)))) (mRet (mFn 2 g__law_of (mCons (mVar 0) (mCons (mLst (mCons (mBin addD (mVar 1) (mC (.int 1))) (mCons (mBin (int2 subF) (mVar 1) (mC (.int 1))) (mCons (mNeg (mC (.int 1))) (mCons (mC (.bl true)) (mCons (mC (.int 0)) (mCons (mC (.int 2)) (mCons (mC .non) (mCons (mCall strN (mCons (mVar 1) mNil)) mNil))))))))) mNil)))) mNx) (mRet (mFn 2 g__law_of (mCons (mVar 0) (mCons (mLst (mCons (mC (.str (PySem.Str.ofString "offer"))) (mCons (mC (.str (PySem.Str.ofString "agree"))) (mCons (mC (.str (PySem.Str.ofString "turn"))) (mCons (mC (.str (PySem.Str.ofString "secret"))) (mCons (mC (.str (PySem.Str.ofString "pass"))) (mCons (mC (.str (PySem.Str.ofString "image"))) (mCons (mC (.str (PySem.Str.ofString ""))) (mCons (mC .non) mNil))))))))) mNil)))))))
def g__law_bent' : Nat → List D → Sto → R D
  | 0 => fun _ _ => .no
  | k + 1 => runM 3 (b__law_bent (g__law_bent' k))
abbrev g__law_bent := g__law_bent' 20
abbrev s_is_sheet : Stmt := topS 14
abbrev N_is_sheet : List Str := ["net", "thing", "channel", "number", "sums", "locks"]
theorem sc_is_sheet : FnScope N_is_sheet ["net", "thing"] (defScope s_is_sheet) := ⟨rfl, rfl, rfl, by decide +kernel, rfl, by decide +kernel, by decide +kernel⟩
def b_is_sheet : MS := (mSeqS (mIfS (mNotT (mTru (mFn 2 g_is_tuple_of (mCons (mVar 1) (mCons (mC (.int 4)) mNil))))) (mRet (mC (.bl false))) mNx) (mSeqS (mUnp (.many [2, 3, 4, 5]) (mVar 1)) (mSeqS (mIfS (mOrT (mNotT (mTru (mFn 2 g_is_below (mCons (mVar 2) (mCons (mCall lenF (mCons (mVar 0) mNil)) mNil))))) (mNotT (mTru (mFn 2 g_is_from (mCons (mVar 3) (mCons (mC (.int 0)) mNil)))))) (mRet (mC (.bl false))) mNx) (mSeqS (mIfS (mOrT (mNotT (mTru (mFn 2 g_is_tuple_of (mCons (mVar 4) (mCons (mC (.int 2)) mNil))))) (mOrT (mNotT (mTru (mFn 2 g_is_from (mCons (mBin ixD (mVar 4) (mC (.int 0))) (mCons (mC (.int 0)) mNil))))) (mOrT (mNotT (mTru (mFn 2 g_is_from (mCons (mBin ixD (mVar 4) (mC (.int 1))) (mCons (mC (.int 0)) mNil))))) (mNotT (mTru (mFn 1 g__are_locks (mCons (mVar 5) mNil))))))) (mRet (mC (.bl false))) mNx) (mSeqS (mIfS (mTB (mBin eqD (mVar 3) (mC (.int 0)))) (mRet (mBin eqD (mVar 1) (mFn 2 g_first_sheet (mCons (mVar 0) (mCons (mVar 2) mNil))))) mNx) (mRet (mBin eqD (mFn 1 g_total (mCons (mVar 1) mNil)) (mBin addD (mBin ixD (mBin ixD (mVar 0) (mVar 2)) (mC (.int 2))) (mBin ixD (mBin ixD (mVar 0) (mVar 2)) (mC (.int 3)))))))))))
def g_is_sheet : List D → Sto → R D := runM 6 b_is_sheet
abbrev s_is_letter : Stmt := topS 20
abbrev N_is_letter : List Str := ["net", "thing", "route", "ends", "channel"]
theorem sc_is_letter : FnScope N_is_letter ["net", "thing"] (defScope s_is_letter) := ⟨rfl, rfl, rfl, by decide +kernel, rfl, by decide +kernel, by decide +kernel⟩
def b_is_letter : MS := (mSeqS (mIfS (mTru (mFn 2 g_is_tuple_of (mCons (mVar 1) (mCons (mC (.int 2)) mNil)))) (mRet (mAnd (mBin inD (mBin ixD (mVar 1) (mC (.int 0))) (mC (.tup [.str (PySem.Str.ofString "offer"), .str (PySem.Str.ofString "agree")]))) (mFn 2 g_is_sheet (mCons (mVar 0) (mCons (mBin ixD (mVar 1) (mC (.int 1))) mNil))))) mNx) (mSeqS (mIfS (mTru (mFn 2 g_is_tuple_of (mCons (mVar 1) (mCons (mC (.int 3)) mNil)))) (mRet (mAnd (mBin inD (mBin ixD (mVar 1) (mC (.int 0))) (mC (.tup [.str (PySem.Str.ofString "turn"), .str (PySem.Str.ofString "secret")]))) (mAnd (mFn 2 g_is_below (mCons (mBin ixD (mVar 1) (mC (.int 1))) (mCons (mCall lenF (mCons (mVar 0) mNil)) mNil))) (mFn 2 g_is_from (mCons (mBin ixD (mVar 1) (mC (.int 2))) (mCons (mC (.int 0)) mNil)))))) mNx) (mSeqS (mIfS (mOrT (mNotT (mTru (mFn 2 g_is_tuple_of (mCons (mVar 1) (mCons (mC (.int 5)) mNil))))) (mOrT (mTB (mBin neD (mBin ixD (mVar 1) (mC (.int 0))) (mC (.str (PySem.Str.ofString "pass"))))) (mOrT (mNotT (mTru (mFn 2 g_is_below (mCons (mBin ixD (mVar 1) (mC (.int 1))) (mCons (mCall lenF (mCons (mVar 0) mNil)) mNil))))) (mNotT (mTru (mFn 1 g_is_image (mCons (mBin ixD (mVar 1) (mC (.int 2))) mNil))))))) (mRet (mC (.bl false))) mNx) (mSeqS (mUnp (.many [2, 3]) (mSl (mVar 1) (mPart (mC (.int 3))) mNoP)) (mSeqS (mIfS (mOrT (mNotT (mTru (mFn 2 g_are_from (mCons (mVar 2) (mCons (mC (.int 0)) mNil))))) (mOrT (mNotT (mTru (mFn 2 g_are_from (mCons (mVar 3) (mCons (mC (.int 0)) mNil))))) (mTB (mBin neD (mCall lenF (mCons (mVar 2) mNil)) (mCall lenF (mCons (mVar 3) mNil)))))) (mRet (mC (.bl false))) mNx) (mRet (mCall allF (mCons (mLc (mSeq (mVar 2)) (.one 4) mYes (mBin ltD (mVar 4) (mCall lenF (mCons (mVar 0) mNil))) [4]) mNil))))))))
def g_is_letter : List D → Sto → R D := runM 5 b_is_letter
abbrev s__law_by_hand_right : Stmt := topS 41
abbrev N__law_by_hand_right : List Str := ["net_so", "lent", "image", "goods_so", "bads_so", "got", "own"]
theorem sc__law_by_hand_right : FnScope N__law_by_hand_right [] (defScope s__law_by_hand_right) := ⟨rfl, rfl, rfl, by decide +kernel, rfl, by decide +kernel, by decide +kernel⟩
def b__law_by_hand_right_0 : MS := (mUnp (.many [0, 1, 2]) (mTup (mCons (mFn0 g__law_net) (mCons (mFn0 g__law_lent) (mCons (mTup (mCons (mC (.str (PySem.Str.ofString "image"))) (mCons (mC (.int 7)) mNil))) mNil)))))
def b__law_by_hand_right_1 : MS := (mSet 3 (mLst (mCons (mTup (mCons (mC (.str (PySem.Str.ofString "offer"))) (mCons (mVar 1) mNil))) (mCons (mTup (mCons (mC (.str (PySem.Str.ofString "agree"))) (mCons (mTup (mCons (mC (.int 0)) (mCons (mC (.int 0)) (mCons (mTup (mCons (mC (.int 10)) (mCons (mC (.int 5)) mNil))) (mCons (mTup mNil) mNil))))) mNil))) (mCons (mTup (mCons (mC (.str (PySem.Str.ofString "turn"))) (mCons (mC (.int 1)) (mCons (mC (.int 0)) mNil)))) (mCons (mTup (mCons (mC (.str (PySem.Str.ofString "secret"))) (mCons (mC (.int 0)) (mCons (mBin (int2 powF) (mC (.int 10)) (mC (.int 13))) mNil)))) (mCons (mTup (mCons (mC (.str (PySem.Str.ofString "pass"))) (mCons (mC (.int 1)) (mCons (mVar 2) (mCons (mTup mNil) (mCons (mTup mNil) mNil)))))) mNil)))))))
def b__law_by_hand_right_2 : MS := (mSet 3 (mBin addD (mVar 3) (mLst (mCons (mTup (mCons (mC (.str (PySem.Str.ofString "pass"))) (mCons (mC (.int 0)) (mCons (mVar 2) (mCons (mTup (mCons (mC (.int 1)) (mCons (mC (.int 0)) (mCons (mC (.int 1)) mNil)))) (mCons (mTup (mCons (mC (.int 9)) (mCons (mC (.int 0)) (mCons (mC (.int 9)) mNil)))) mNil)))))) mNil))))
def b__law_by_hand_right_3 : MS := (mSet 4 (mLst (mCons (mTup (mCons (mC (.str (PySem.Str.ofString "agree"))) (mCons (mTup (mCons (mC (.int 0)) (mCons (mC (.int 3)) (mCons (mTup (mCons (mC (.int 6)) (mCons (mC (.int 5)) mNil))) (mCons (mTup mNil) mNil))))) mNil))) (mCons (mTup (mCons (mC (.str (PySem.Str.ofString "secret"))) (mCons (mC (.int 2)) (mCons (mC (.int 7)) mNil)))) (mCons (mTup (mCons (mC (.str (PySem.Str.ofString "turn"))) (mCons (mC (.int 0)) (mCons (mNeg (mC (.int 1))) mNil)))) (mCons (mTup (mCons (mC (.str (PySem.Str.ofString "turn"))) (mCons (mC (.bl true)) (mCons (mC (.int 1)) mNil)))) (mCons (mTup (mCons (mC (.str (PySem.Str.ofString "secret"))) (mCons (mC (.int 0)) (mCons (mC (.int 7)) (mCons (mC (.int 7)) mNil))))) mNil)))))))
def b__law_by_hand_right_4 : MS := (mSet 4 (mBin addD (mVar 4) (mLst (mCons (mTup (mCons (mC (.str (PySem.Str.ofString "refuse"))) (mCons (mC (.int 0)) (mCons (mVar 2) mNil)))) (mCons (mTup (mCons (mC (.str (PySem.Str.ofString "secret"))) (mCons (mC (.int 0)) mNil))) mNil)))))
def b__law_by_hand_right_5 : MS := (mSet 4 (mBin addD (mVar 4) (mLst (mCons (mTup (mCons (mC (.str (PySem.Str.ofString "pass"))) (mCons (mC (.int 0)) (mCons (mVar 2) (mCons (mTup (mCons (mC (.int 1)) mNil)) (mCons (mTup mNil) mNil)))))) (mCons (mTup (mCons (mC (.str (PySem.Str.ofString "pass"))) (mCons (mC (.int 0)) (mCons (mC (.int 7)) (mCons (mTup mNil) (mCons (mTup mNil) mNil)))))) (mCons (mTup (mCons (mC (.str (PySem.Str.ofString "pass"))) (mCons (mC (.int 0)) (mCons (mVar 2) (mCons (mLst (mCons (mC (.int 1)) mNil)) (mCons (mTup (mCons (mC (.int 3)) mNil)) mNil)))))) (mCons (mTup (mCons (mC (.str (PySem.Str.ofString "pass"))) (mCons (mC (.int 0)) (mCons (mVar 2) (mCons (mTup (mCons (mC (.int 2)) mNil)) (mCons (mTup (mCons (mC (.int 3)) mNil)) mNil)))))) mNil)))))))
def b__law_by_hand_right_6 : MS := (mSet 4 (mBin addD (mVar 4) (mLst (mCons (mTup (mCons (mC (.str (PySem.Str.ofString "pass"))) (mCons (mC (.int 0)) (mCons (mVar 2) (mCons (mTup (mCons (mC (.int 1)) mNil)) (mCons (mTup (mCons (mNeg (mC (.int 1))) mNil)) mNil)))))) mNil))))
def b__law_by_hand_right_7 : MS := (mSet 4 (mBin addD (mVar 4) (mLst (mCons (mLst (mCons (mC (.str (PySem.Str.ofString "turn"))) (mCons (mC (.int 0)) (mCons (mC (.int 1)) mNil)))) (mCons (mTup (mCons (mC (.str (PySem.Str.ofString "offer"))) (mCons (mCall listF (mCons (mVar 1) mNil)) mNil))) (mCons (mTup (mCons (mC (.str (PySem.Str.ofString "offer"))) (mCons (mVar 1) (mCons (mVar 1) mNil)))) (mCons (mTup (mCons (mC (.str (PySem.Str.ofString "offer"))) mNil)) (mCons (mTup mNil) (mCons (mC .non) (mCons (mC (.str (PySem.Str.ofString "offer"))) (mCons (mTup (mCons (mC (.str (PySem.Str.ofString "offer"))) (mCons (mTup (mCons (mC (.int 0)) (mCons (mC (.int 0)) (mCons (mTup (mCons (mC (.int 9)) (mCons (mC (.int 6)) mNil))) (mCons (mTup mNil) mNil))))) mNil))) mNil)))))))))))
def b__law_by_hand_right_8 : MS := (mSet 4 (mBin addD (mVar 4) (mLst (mCons (mTup (mCons (mC (.str (PySem.Str.ofString "pass"))) (mCons (mC (.int 0)) (mCons (mVar 2) mNil)))) mNil))))
def b__law_by_hand_right_9 : MS := (mSet 5 (mLst (mCons (mLc (mSeq (mVar 3)) (.one 6) mYes (mFn 2 g_is_letter (mCons (mVar 0) (mCons (mVar 6) mNil))) [6]) (mCons (mLc (mSeq (mVar 4)) (.one 6) mYes (mFn 2 g_is_letter (mCons (mVar 0) (mCons (mVar 6) mNil))) [6]) mNil))))
def b__law_by_hand_right_10 : MS := (mSet 5 (mBin addD (mVar 5) (mLst (mCons (mFnK 2 [1, 0] g_is_letter (mCons (mBin ixD (mVar 3) (mC (.int 0))) (mCons (mFn 1 g__law_lists (mCons (mVar 0) mNil)) mNil))) mNil))))
def b__law_by_hand_right_11 : MS := (mSet 5 (mBin addD (mVar 5) (mLst (mCons (mLc (mSeq (mVar 3)) (.one 6) mYes (mFn 1 g_channel_of (mCons (mVar 6) mNil)) [6]) (mCons (mFnK 1 [0] g_channel_of (mCons (mLst (mCons (mC (.str (PySem.Str.ofString "agree"))) (mCons (mLst (mCons (mC (.int 1)) (mCons (mC (.int 2)) (mCons (mLst (mCons (mC (.int 8)) (mCons (mC (.int 0)) mNil))) (mCons (mLst mNil) mNil))))) mNil))) mNil)) mNil)))))
def b__law_by_hand_right_12 : MS := (mSet 5 (mBin addD (mVar 5) (mLst (mCons (mFn 1 g_channel_of (mCons (mLst (mCons (mC (.str (PySem.Str.ofString "pass"))) (mCons (mC (.int 5)) (mCons (mLst (mCons (mC (.str (PySem.Str.ofString "image"))) (mCons (mC (.int 7)) mNil))) (mCons (mLst mNil) (mCons (mLst mNil) mNil)))))) mNil)) mNil))))
def b__law_by_hand_right_13 : MS := (mRet (mFn 2 g__law_same (mCons (mVar 5) (mCons (mLst (mCons (mBin mulD (mLst (mCons (mC (.bl true)) mNil)) (mC (.int 6))) (mCons (mBin mulD (mLst (mCons (mC (.bl false)) mNil)) (mC (.int 21))) (mCons (mC (.bl true)) (mCons (mLst (mCons (mC (.int 0)) (mCons (mC (.int 0)) (mCons (mC (.int 1)) (mCons (mC (.int 0)) (mCons (mC (.int 1)) (mCons (mC (.int 0)) mNil))))))) (mCons (mC (.int 1)) (mCons (mC (.int 5)) mNil))))))) mNil))))
def b__law_by_hand_right : MS := (mSeqS b__law_by_hand_right_0 (mSeqS b__law_by_hand_right_1 (mSeqS b__law_by_hand_right_2 (mSeqS b__law_by_hand_right_3 (mSeqS b__law_by_hand_right_4 (mSeqS b__law_by_hand_right_5 (mSeqS b__law_by_hand_right_6 (mSeqS b__law_by_hand_right_7 (mSeqS b__law_by_hand_right_8 (mSeqS b__law_by_hand_right_9 (mSeqS b__law_by_hand_right_10 (mSeqS b__law_by_hand_right_11 (mSeqS b__law_by_hand_right_12 b__law_by_hand_right_13)))))))))))))
def g__law_by_hand_right : List D → Sto → R D := runM 7 b__law_by_hand_right
abbrev s_law : Stmt := topS 42
abbrev N_law : List Str := ["script", "urn", "lap", "own", "bent_so", "due"]
theorem sc_law : FnScope N_law ["script"] (defScope s_law) := ⟨rfl, rfl, rfl, by decide +kernel, rfl, by decide +kernel, by decide +kernel⟩
def b_law : MS := (mSeqS (mIfS (mNotT (mTru (mFn0 g__law_by_hand_right))) (mRet (mC (.bl false))) mNx) (mSeqS (mSet 1 (mFn 2 g__law_box (mCons (mFn 2 g__law_cells (mCons (mVar 0) (mCons (mC (.int 1)) mNil))) (mCons (mC (.int 0)) mNil)))) (mSeqS (mFor (mWk rng1F (mCons (mC (.int 12)) mNil)) (.one 2) (mSeqS (mSet 3 (mFn 1 g__law_fair (mCons (mVar 1) mNil))) (mSeqS (mSet 4 (mFn 2 g__law_bent (mCons (mVar 1) (mCons (mVar 3) mNil)))) (mSeqS (mSet 5 (mLst (mCons (mC (.bl true)) (mCons (mIf (mTB (mBin inD (mBin ixD (mVar 3) (mC (.int 0))) (mTup (mCons (mC (.str (PySem.Str.ofString "offer"))) (mCons (mC (.str (PySem.Str.ofString "agree"))) mNil))))) (mBin ixD (mBin ixD (mVar 3) (mC (.int 1))) (mC (.int 0))) (mBin ixD (mVar 3) (mC (.int 1)))) (mCons (mFn 2 g__law_is_letter (mCons (mFn0 g__law_net) (mCons (mVar 4) mNil))) mNil))))) (mIfS (mNotT (mTru (mFn 2 g__law_same (mCons (mLst (mCons (mFn 2 g_is_letter (mCons (mFn0 g__law_net) (mCons (mVar 3) mNil))) (mCons (mFn 1 g_channel_of (mCons (mVar 3) mNil)) (mCons (mFn 2 g_is_letter (mCons (mFn 1 g__law_lists (mCons (mFn0 g__law_net) mNil)) (mCons (mVar 4) mNil))) mNil)))) (mCons (mVar 5) mNil))))) (mRet (mC (.bl false))) mNx))))) (mRet (mC (.bl true))))))
def g_law : List D → Sto → R D := runM 6 b_law
abbrev s_ini_NoPlace : Stmt := clsDef (topS 1) 0
abbrev N_ini_NoPlace : List Str := ["self", "place"]
theorem sc_ini_NoPlace : FnScope N_ini_NoPlace ["self", "place"] (defScope s_ini_NoPlace) := ⟨rfl, rfl, rfl, by decide +kernel, rfl, by decide +kernel, by decide +kernel⟩
structure Txt (K : PySem.W.Frag) (mg : Str → Option Value) where
  z_abs : mg "abs" = none
  z_all : mg "all" = none
  z_bool : mg "bool" = none
  z_enumerate : mg "enumerate" = none
  z_int : mg "int" = none
  z_isinstance : mg "isinstance" = none
  z_len : mg "len" = none
  z_list : mg "list" = none
  z_min : mg "min" = none
  z_range : mg "range" = none
  z_set : mg "set" = none
  z_str : mg "str" = none
  z_sum : mg "sum" = none
  z_tuple : mg "tuple" = none
  z_zip : mg "zip" = none
  ta__OF_NUMBERS : Addr
  tc__OF_NUMBERS : TupM K ta__OF_NUMBERS [.str (PySem.Str.ofString "turn"), .str (PySem.Str.ofString "secret")]
  tg__OF_NUMBERS : mg "_OF_NUMBERS" = some (.ref ta__OF_NUMBERS)
  ta__OF_SHEETS : Addr
  tc__OF_SHEETS : TupM K ta__OF_SHEETS [.str (PySem.Str.ofString "offer"), .str (PySem.Str.ofString "agree")]
  tg__OF_SHEETS : mg "_OF_SHEETS" = some (.ref ta__OF_SHEETS)
  z_LookupError : mg "LookupError" = none
  vV_LookupError : PySem.W.findCls K (.type "LookupError") (.type "type") "__init__" = some (.val (.builtin "LookupError.__init__"))
  c_NoPlace : Addr
  i_NoPlace : Addr
  fi_NoPlace : FuncData
  gc_NoPlace : mg "NoPlace" = some (.ref c_NoPlace)
  x_NoPlace : XC K c_NoPlace "LookupError.__new__" [.type "LookupError", .type "Exception", .type "BaseException", .type "object"]
  no_NoPlace : PySem.W.findIn K (.ref c_NoPlace) "place" = some none
  iC_NoPlace : PySem.W.findIn K (.ref c_NoPlace) "__init__" = some (some (.ref i_NoPlace))
  tI_NoPlace : PySem.W.typeIn K (.ref i_NoPlace) = some (.type "function")
  FI_NoPlace : Fun K "__init__" "NoPlace.__init__" s_ini_NoPlace i_NoPlace fi_NoPlace
  bI_NoPlace : Binds K fi_NoPlace ["self", "place"] []
  xf_NoPlace : XfC K c_NoPlace
  ex_NoPlace : PySem.W.exmOne K (.ref c_NoPlace) (.ref c_NoPlace) = some true
  a_is_number : Addr
  fd_is_number : FuncData
  F_is_number : Fun K "is_number" "is_number" s_is_number a_is_number fd_is_number
  g_is_number : mg "is_number" = some (.ref a_is_number)
  b_is_number : Binds K fd_is_number ["thing"] []
  a_is_from : Addr
  fd_is_from : FuncData
  F_is_from : Fun K "is_from" "is_from" s_is_from a_is_from fd_is_from
  g_is_from : mg "is_from" = some (.ref a_is_from)
  b_is_from : Binds K fd_is_from ["thing", "least"] []
  a_is_below : Addr
  fd_is_below : FuncData
  F_is_below : Fun K "is_below" "is_below" s_is_below a_is_below fd_is_below
  g_is_below : mg "is_below" = some (.ref a_is_below)
  b_is_below : Binds K fd_is_below ["thing", "many"] []
  a_is_tuple_of : Addr
  fd_is_tuple_of : FuncData
  F_is_tuple_of : Fun K "is_tuple_of" "is_tuple_of" s_is_tuple_of a_is_tuple_of fd_is_tuple_of
  g_is_tuple_of : mg "is_tuple_of" = some (.ref a_is_tuple_of)
  b_is_tuple_of : Binds K fd_is_tuple_of ["thing", "many"] []
  a_are_from : Addr
  fd_are_from : FuncData
  F_are_from : Fun K "are_from" "are_from" s_are_from a_are_from fd_are_from
  g_are_from : mg "are_from" = some (.ref a_are_from)
  b_are_from : Binds K fd_are_from ["thing", "least"] []
  a_are_unlike : Addr
  fd_are_unlike : FuncData
  F_are_unlike : Fun K "are_unlike" "are_unlike" s_are_unlike a_are_unlike fd_are_unlike
  g_are_unlike : mg "are_unlike" = some (.ref a_are_unlike)
  b_are_unlike : Binds K fd_are_unlike ["values"] []
  a_at_place : Addr
  fd_at_place : FuncData
  F_at_place : Fun K "at_place" "at_place" s_at_place a_at_place fd_at_place
  g_at_place : mg "at_place" = some (.ref a_at_place)
  b_at_place : Binds K fd_at_place ["row", "place"] []
  a_is_image : Addr
  fd_is_image : FuncData
  F_is_image : Fun K "is_image" "is_image" s_is_image a_is_image fd_is_image
  g_is_image : mg "is_image" = some (.ref a_is_image)
  b_is_image : Binds K fd_is_image ["thing"] []
  a_is_lock : Addr
  fd_is_lock : FuncData
  F_is_lock : Fun K "is_lock" "is_lock" s_is_lock a_is_lock fd_is_lock
  g_is_lock : mg "is_lock" = some (.ref a_is_lock)
  b_is_lock : Binds K fd_is_lock ["thing"] []
  a__are_locks : Addr
  fd__are_locks : FuncData
  F__are_locks : Fun K "_are_locks" "_are_locks" s__are_locks a__are_locks fd__are_locks
  g__are_locks : mg "_are_locks" = some (.ref a__are_locks)
  b__are_locks : Binds K fd__are_locks ["thing"] []
  a_first_sheet : Addr
  fd_first_sheet : FuncData
  F_first_sheet : Fun K "first_sheet" "first_sheet" s_first_sheet a_first_sheet fd_first_sheet
  g_first_sheet : mg "first_sheet" = some (.ref a_first_sheet)
  b_first_sheet : Binds K fd_first_sheet ["net", "channel"] []
  a_total : Addr
  fd_total : FuncData
  F_total : Fun K "total" "total" s_total a_total fd_total
  g_total : mg "total" = some (.ref a_total)
  b_total : Binds K fd_total ["sheet"] []
  a_channel_of : Addr
  fd_channel_of : FuncData
  F_channel_of : Fun K "channel_of" "channel_of" s_channel_of a_channel_of fd_channel_of
  g_channel_of : mg "channel_of" = some (.ref a_channel_of)
  b_channel_of : Binds K fd_channel_of ["letter"] []
  a__law_box : Addr
  fd__law_box : FuncData
  F__law_box : Fun K "_law_box" "_law_box" s__law_box a__law_box fd__law_box
  g__law_box : mg "_law_box" = some (.ref a__law_box)
  b__law_box : Binds K fd__law_box ["script", "k"] []
  a__law_take : Addr
  fd__law_take : FuncData
  F__law_take : Fun K "_law_take" "_law_take" s__law_take a__law_take fd__law_take
  g__law_take : mg "_law_take" = some (.ref a__law_take)
  b__law_take : Binds K fd__law_take ["urn", "low_so"] []
  a__law_cells : Addr
  fd__law_cells : FuncData
  F__law_cells : Fun K "_law_cells" "_law_cells" s__law_cells a__law_cells fd__law_cells
  g__law_cells : mg "_law_cells" = some (.ref a__law_cells)
  b__law_cells : Binds K fd__law_cells ["script", "top"] []
  a__law_of : Addr
  fd__law_of : FuncData
  F__law_of : Fun K "_law_of" "_law_of" s__law_of a__law_of fd__law_of
  g__law_of : mg "_law_of" = some (.ref a__law_of)
  b__law_of : Binds K fd__law_of ["urn", "some_so"] []
  a__law_lists : Addr
  fd__law_lists : FuncData
  F__law_lists : Fun K "_law_lists" "_law_lists" s__law_lists a__law_lists fd__law_lists
  g__law_lists : mg "_law_lists" = some (.ref a__law_lists)
  b__law_lists : Binds K fd__law_lists ["matter"] []
  a__law_same : Addr
  fd__law_same : FuncData
  F__law_same : Fun K "_law_same" "_law_same" s__law_same a__law_same fd__law_same
  g__law_same : mg "_law_same" = some (.ref a__law_same)
  b__law_same : Binds K fd__law_same ["got", "goal"] []
  a__law_pick : Addr
  fd__law_pick : FuncData
  F__law_pick : Fun K "_law_pick" "_law_pick" s__law_pick a__law_pick fd__law_pick
  g__law_pick : mg "_law_pick" = some (.ref a__law_pick)
  b__law_pick : Binds K fd__law_pick ["urn", "goods_so", "many"] []
  a__law_net : Addr
  fd__law_net : FuncData
  F__law_net : Fun K "_law_net" "_law_net" s__law_net a__law_net fd__law_net
  g__law_net : mg "_law_net" = some (.ref a__law_net)
  b__law_net : Binds K fd__law_net [] []
  a__law_lent : Addr
  fd__law_lent : FuncData
  F__law_lent : Fun K "_law_lent" "_law_lent" s__law_lent a__law_lent fd__law_lent
  g__law_lent : mg "_law_lent" = some (.ref a__law_lent)
  b__law_lent : Binds K fd__law_lent [] []
  a__law_locks : Addr
  fd__law_locks : FuncData
  F__law_locks : Fun K "_law_locks" "_law_locks" s__law_locks a__law_locks fd__law_locks
  g__law_locks : mg "_law_locks" = some (.ref a__law_locks)
  b__law_locks : Binds K fd__law_locks ["urn", "most"] []
  a__law_is_count : Addr
  fd__law_is_count : FuncData
  F__law_is_count : Fun K "_law_is_count" "_law_is_count" s__law_is_count a__law_is_count fd__law_is_count
  g__law_is_count : mg "_law_is_count" = some (.ref a__law_is_count)
  b__law_is_count : Binds K fd__law_is_count ["own"] []
  a__law_is_image : Addr
  fd__law_is_image : FuncData
  F__law_is_image : Fun K "_law_is_image" "_law_is_image" s__law_is_image a__law_is_image fd__law_is_image
  g__law_is_image : mg "_law_is_image" = some (.ref a__law_is_image)
  b__law_is_image : Binds K fd__law_is_image ["own"] []
  a__law_is_lock : Addr
  fd__law_is_lock : FuncData
  F__law_is_lock : Fun K "_law_is_lock" "_law_is_lock" s__law_is_lock a__law_is_lock fd__law_is_lock
  g__law_is_lock : mg "_law_is_lock" = some (.ref a__law_is_lock)
  b__law_is_lock : Binds K fd__law_is_lock ["own"] []
  a__law_is_sheet : Addr
  fd__law_is_sheet : FuncData
  F__law_is_sheet : Fun K "_law_is_sheet" "_law_is_sheet" s__law_is_sheet a__law_is_sheet fd__law_is_sheet
  g__law_is_sheet : mg "_law_is_sheet" = some (.ref a__law_is_sheet)
  b__law_is_sheet : Binds K fd__law_is_sheet ["net_so", "own"] []
  a__law_is_letter : Addr
  fd__law_is_letter : FuncData
  F__law_is_letter : Fun K "_law_is_letter" "_law_is_letter" s__law_is_letter a__law_is_letter fd__law_is_letter
  g__law_is_letter : mg "_law_is_letter" = some (.ref a__law_is_letter)
  b__law_is_letter : Binds K fd__law_is_letter ["net_so", "own"] []
  a__law_fair_sheet : Addr
  fd__law_fair_sheet : FuncData
  F__law_fair_sheet : Fun K "_law_fair_sheet" "_law_fair_sheet" s__law_fair_sheet a__law_fair_sheet fd__law_fair_sheet
  g__law_fair_sheet : mg "_law_fair_sheet" = some (.ref a__law_fair_sheet)
  b__law_fair_sheet : Binds K fd__law_fair_sheet ["urn"] []
  a__law_fair : Addr
  fd__law_fair : FuncData
  F__law_fair : Fun K "_law_fair" "_law_fair" s__law_fair a__law_fair fd__law_fair
  g__law_fair : mg "_law_fair" = some (.ref a__law_fair)
  b__law_fair : Binds K fd__law_fair ["urn"] []
  a__law_bent : Addr
  fd__law_bent : FuncData
  F__law_bent : Fun K "_law_bent" "_law_bent" s__law_bent a__law_bent fd__law_bent
  g__law_bent : mg "_law_bent" = some (.ref a__law_bent)
  b__law_bent : Binds K fd__law_bent ["urn", "matter"] []
  a_is_sheet : Addr
  fd_is_sheet : FuncData
  F_is_sheet : Fun K "is_sheet" "is_sheet" s_is_sheet a_is_sheet fd_is_sheet
  g_is_sheet : mg "is_sheet" = some (.ref a_is_sheet)
  b_is_sheet : Binds K fd_is_sheet ["net", "thing"] []
  a_is_letter : Addr
  fd_is_letter : FuncData
  F_is_letter : Fun K "is_letter" "is_letter" s_is_letter a_is_letter fd_is_letter
  g_is_letter : mg "is_letter" = some (.ref a_is_letter)
  b_is_letter : Binds K fd_is_letter ["net", "thing"] []
  a__law_by_hand_right : Addr
  fd__law_by_hand_right : FuncData
  F__law_by_hand_right : Fun K "_law_by_hand_right" "_law_by_hand_right" s__law_by_hand_right a__law_by_hand_right fd__law_by_hand_right
  g__law_by_hand_right : mg "_law_by_hand_right" = some (.ref a__law_by_hand_right)
  b__law_by_hand_right : Binds K fd__law_by_hand_right [] []
  a_law : Addr
  fd_law : FuncData
  F_law : Fun K "law" "law" s_law a_law fd_law
  g_law : mg "law" = some (.ref a_law)
  b_law : Binds K fd_law ["script"] []
  kb_channel_of_0 : KB K fd_channel_of ["letter"] ["letter"] [0]
  kb_is_letter_10 : KB K fd_is_letter ["net", "thing"] ["thing", "net"] [1, 0]
section
variable {P : Program} {w : World} {K : PySem.W.Frag} {mg : Str → Option Value} {base : Heap}
theorem ok_ini_NoPlace (T : Txt K mg) : FnOk P w K mg base (L2.CX P w) 1 T.i_NoPlace T.fi_NoPlace ["self", "place"] (spIni T.c_NoPlace "place") :=
  T.FI_NoPlace.okX sc_ini_NoPlace (fun vs H Q E h => by obtain ⟨_, _, rfl, _⟩ := h; rfl) fun cdv A outer s H vs Q E hr h => ⟨_, pss_cons (ps_expr (pe_binit PySem.F.excBase_LookupError T.x_NoPlace (by kernel_rfl) PyProof.Rows.Boot.«LookupError» (by decide) (by decide) T.vV_LookupError (by decide +kernel) (by decide +kernel) (by rfl) T.z_LookupError (pa_cons (pv 0) (pa_cons (pe_joined (PJ.cons pe_str (PJ.cons (pe_fmt (pv 1)) PJ.nil))) pa_nil)))) (pss_one (ps_fst PySem.F.store_LookupError T.x_NoPlace T.no_NoPlace (pv 0) (pv 1))), pure_ini rfl (by decide +kernel) h⟩
theorem ok_is_number (T : Txt K mg) {k : Nat} : FnOk P w K mg base (L2.CX P w) (k + 1) T.a_is_number T.fd_is_number ["thing"] (spD K mg 1 g_is_number) :=
  have S := sc_is_number
  fn_ok (k := k) T.F_is_number S fun cdv A outer s H E hr tk hp =>
    (ss_one (s_ret (d_and (d_callB call_isi is_ok (by rfl) T.z_isinstance PyProof.Rows.boot_isinstance (d_cons (d_var 0) (d_cons (d_ty .int (by rfl) T.z_int PyProof.Rows.boot_int) d_nil))) (d_one (d_not (d_callB call_isi is_ok (by rfl) T.z_isinstance PyProof.Rows.boot_isinstance (d_cons (d_var 0) (d_cons (d_ty .bool (by rfl) T.z_bool PyProof.Rows.boot_bool) d_nil))))))))
theorem ok_is_from (T : Txt K mg) {k : Nat}
    (G_is_number : FnOk P w K mg base (L2.CX P w) (k) T.a_is_number T.fd_is_number ["thing"] (spD K mg 1 g_is_number)) : FnOk P w K mg base (L2.CX P w) (k + 1) T.a_is_from T.fd_is_from ["thing", "least"] (spD K mg 2 g_is_from) :=
  have S := sc_is_from
  fn_ok (k := k) T.F_is_from S fun cdv A outer s H E hr tk hp =>
    (ss_one (s_ret (d_and (d_fn G_is_number hr T.g_is_number T.F_is_number.kp T.b_is_number tk (d_cons (d_var 0) d_nil)) (d_one (d_cmp op_ge ord_ok (d_var 0) (d_var 1) (nomark _))))))
theorem ok_is_below (T : Txt K mg) {k : Nat}
    (G_is_from : FnOk P w K mg base (L2.CX P w) (k) T.a_is_from T.fd_is_from ["thing", "least"] (spD K mg 2 g_is_from)) : FnOk P w K mg base (L2.CX P w) (k + 1) T.a_is_below T.fd_is_below ["thing", "many"] (spD K mg 2 g_is_below) :=
  have S := sc_is_below
  fn_ok (k := k) T.F_is_below S fun cdv A outer s H E hr tk hp =>
    (ss_one (s_ret (d_and (d_fn G_is_from hr T.g_is_from T.F_is_from.kp T.b_is_from tk (d_cons (d_var 0) (d_cons d_int d_nil))) (d_one (d_cmp op_lt ord_ok (d_var 0) (d_var 1) (nomark _))))))
theorem ok_is_tuple_of (T : Txt K mg) {k : Nat} : FnOk P w K mg base (L2.CX P w) (k + 1) T.a_is_tuple_of T.fd_is_tuple_of ["thing", "many"] (spD K mg 2 g_is_tuple_of) :=
  have S := sc_is_tuple_of
  fn_ok (k := k) T.F_is_tuple_of S fun cdv A outer s H E hr tk hp =>
    (ss_one (s_ret (d_and (d_callB call_isi is_ok (by rfl) T.z_isinstance PyProof.Rows.boot_isinstance (d_cons (d_var 0) (d_cons (d_ty .tuple (by rfl) T.z_tuple PyProof.Rows.boot_tuple) d_nil))) (d_one (d_cmp (op_eqD hr.units) eq_ok (d_callB call_len_seq len_ok (by rfl) T.z_len PySem.boot_len (d_cons (d_var 0) d_nil)) (d_var 1) (nomark _))))))
theorem ok_are_from (T : Txt K mg) {k : Nat}
    (G_is_from : FnOk P w K mg base (L2.CX P w) (k) T.a_is_from T.fd_is_from ["thing", "least"] (spD K mg 2 g_is_from)) : FnOk P w K mg base (L2.CX P w) (k + 1) T.a_are_from T.fd_are_from ["thing", "least"] (spD K mg 2 g_are_from) :=
  have S := sc_are_from
  fn_ok (k := k) T.F_are_from S fun cdv A outer s H E hr tk hp =>
    (ss_one (s_ret (d_and (d_callB call_isi is_ok (by rfl) T.z_isinstance PyProof.Rows.boot_isinstance (d_cons (d_var 0) (d_cons (d_ty .tuple (by rfl) T.z_tuple PyProof.Rows.boot_tuple) d_nil))) (d_one (d_callB (cr_all rfl) bl_ok (by rfl) T.z_all (by decide +kernel) (d_cons (d_lc [("part", 2)] rfl S.nd (i_seq (d_var 0)) (blkOk_by (N := N_are_from) (sc := (defScope s_are_from)) (by decide +kernel)) (by decide) (fun _ _ _ _ _ => (g_one 2 S.nd)) (fun _ _ _ _ _ => p_nil) (fun _ _ _ _ _ => (d_fn G_is_from hr T.g_is_from T.F_is_from.kp T.b_is_from takes0 (d_cons (d_var 2) (d_cons (d_var 1) d_nil))))) d_nil))))))
theorem ok_are_unlike (T : Txt K mg) {k : Nat} : FnOk P w K mg base (L2.CX P w) (k + 1) T.a_are_unlike T.fd_are_unlike ["values"] (spD K mg 1 g_are_unlike) :=
  have S := sc_are_unlike
  fn_ok (k := k) T.F_are_unlike S fun cdv A outer s H E hr tk hp =>
    (ss_one (s_ret (d_cmp (op_eqD hr.units) eq_ok (d_lenSet (by rfl) T.z_len (by rfl) T.z_set (d_var 0)) (d_callB call_len_seq len_ok (by rfl) T.z_len PySem.boot_len (d_cons (d_var 0) d_nil)) (nomark _))))
theorem ok_at_place (T : Txt K mg) {k : Nat}
    (G_NoPlace : FnOk P w K mg base (L2.CX P w) k T.i_NoPlace T.fi_NoPlace ["self", "place"] (spIni T.c_NoPlace "place")) : FnOk P w K mg base (L2.CX P w) (k + 1 + 1) T.a_at_place T.fd_at_place ["row", "place"] (spD K mg 2 g_at_place) :=
  have S := sc_at_place
  fn_ok (k := k + 1) T.F_at_place S fun cdv A outer s H E hr tk hp =>
    (ss_cons (s_if (t_not (t_chain op_le op_lt ord_ok ord_ok d_int (d_var 1) (d_callB call_len_seq len_ok (by rfl) T.z_len PySem.boot_len (d_cons (d_var 0) d_nil)))) (ss_one (s_raise rfl PySem.F.excBase_LookupError T.x_NoPlace T.iC_NoPlace T.tI_NoPlace G_NoPlace hr T.bI_NoPlace T.gc_NoPlace tk (d_cons (d_var 1) d_nil))) ss_nil)
      (ss_one (s_ret (d_ix (d_var 0) (d_var 1)))))
theorem ok_is_image (T : Txt K mg) {k : Nat}
    (G_is_from : FnOk P w K mg base (L2.CX P w) (k) T.a_is_from T.fd_is_from ["thing", "least"] (spD K mg 2 g_is_from))
    (G_is_tuple_of : FnOk P w K mg base (L2.CX P w) (k) T.a_is_tuple_of T.fd_is_tuple_of ["thing", "many"] (spD K mg 2 g_is_tuple_of)) : FnOk P w K mg base (L2.CX P w) (k + 1) T.a_is_image T.fd_is_image ["thing"] (spD K mg 1 g_is_image) :=
  have S := sc_is_image
  fn_ok (k := k) T.F_is_image S fun cdv A outer s H E hr tk hp =>
    (ss_one (s_ret (d_and (d_fn G_is_tuple_of hr T.g_is_tuple_of T.F_is_tuple_of.kp T.b_is_tuple_of tk (d_cons (d_var 0) (d_cons d_int d_nil))) (d_and (d_cmp (op_eqD hr.units) eq_ok (d_ix (d_var 0) d_int) d_str (nomark _)) (d_one (d_fn G_is_from hr T.g_is_from T.F_is_from.kp T.b_is_from tk (d_cons (d_ix (d_var 0) d_int) (d_cons d_int d_nil))))))))
theorem ok_is_lock (T : Txt K mg) {k : Nat}
    (G_is_below : FnOk P w K mg base (L2.CX P w) (k) T.a_is_below T.fd_is_below ["thing", "many"] (spD K mg 2 g_is_below))
    (G_is_from : FnOk P w K mg base (L2.CX P w) (k) T.a_is_from T.fd_is_from ["thing", "least"] (spD K mg 2 g_is_from))
    (G_is_image : FnOk P w K mg base (L2.CX P w) (k) T.a_is_image T.fd_is_image ["thing"] (spD K mg 1 g_is_image))
    (G_is_tuple_of : FnOk P w K mg base (L2.CX P w) (k) T.a_is_tuple_of T.fd_is_tuple_of ["thing", "many"] (spD K mg 2 g_is_tuple_of)) : FnOk P w K mg base (L2.CX P w) (k + 1) T.a_is_lock T.fd_is_lock ["thing"] (spD K mg 1 g_is_lock) :=
  have S := sc_is_lock
  fn_ok (k := k) T.F_is_lock S fun cdv A outer s H E hr tk hp =>
    (ss_cons (s_if (t_not (t_tru (d_fn G_is_tuple_of hr T.g_is_tuple_of T.F_is_tuple_of.kp T.b_is_tuple_of tk (d_cons (d_var 0) (d_cons d_int d_nil))))) (ss_one (s_ret d_bl)) ss_nil)
      (ss_cons (s_unp (d_var 0) (g_many rfl (gs_cons 1 S.nd (gs_cons 2 S.nd (gs_cons 3 S.nd (gs_cons 4 S.nd gs_nil))))))
      (ss_one (s_ret (d_and (d_fn G_is_below hr T.g_is_below T.F_is_below.kp T.b_is_below tk (d_cons (d_var 1) (d_cons d_int d_nil))) (d_and (d_fn G_is_from hr T.g_is_from T.F_is_from.kp T.b_is_from tk (d_cons (d_var 2) (d_cons d_int d_nil))) (d_and (d_fn G_is_image hr T.g_is_image T.F_is_image.kp T.b_is_image tk (d_cons (d_var 3) d_nil)) (d_one (d_fn G_is_from hr T.g_is_from T.F_is_from.kp T.b_is_from tk (d_cons (d_var 4) (d_cons d_int d_nil)))))))))))
theorem ok__are_locks (T : Txt K mg) {k : Nat}
    (G_are_unlike : FnOk P w K mg base (L2.CX P w) (k) T.a_are_unlike T.fd_are_unlike ["values"] (spD K mg 1 g_are_unlike))
    (G_is_lock : FnOk P w K mg base (L2.CX P w) (k) T.a_is_lock T.fd_is_lock ["thing"] (spD K mg 1 g_is_lock)) : FnOk P w K mg base (L2.CX P w) (k + 1) T.a__are_locks T.fd__are_locks ["thing"] (spD K mg 1 g__are_locks) :=
  have S := sc__are_locks
  fn_ok (k := k) T.F__are_locks S fun cdv A outer s H E hr tk hp =>
    (ss_cons (s_if (PW.pt (w_or (t_not (t_tru (d_callB call_isi is_ok (by rfl) T.z_isinstance PyProof.Rows.boot_isinstance (d_cons (d_var 0) (d_cons (d_ty .tuple (by rfl) T.z_tuple PyProof.Rows.boot_tuple) d_nil))))) (w_or1 (t_not (t_tru (d_callB (cr_all rfl) bl_ok (by rfl) T.z_all (by decide +kernel) (d_cons (d_lc [("part", 1)] rfl S.nd (i_seq (d_var 0)) (blkOk_by (N := N__are_locks) (sc := (defScope s__are_locks)) (by decide +kernel)) (by decide) (fun _ _ _ _ _ => (g_one 1 S.nd)) (fun _ _ _ _ _ => p_nil) (fun _ _ _ _ _ => (d_fn G_is_lock hr T.g_is_lock T.F_is_lock.kp T.b_is_lock takes0 (d_cons (d_var 1) d_nil)))) d_nil))))))) (ss_one (s_ret d_bl)) ss_nil)
      (ss_one (s_ret (d_fn G_are_unlike hr T.g_are_unlike T.F_are_unlike.kp T.b_are_unlike tk (d_cons (d_lc [("lock", 2)] rfl S.nd (i_seq (d_var 0)) (blkOk_by (N := N__are_locks) (sc := (defScope s__are_locks)) (by decide +kernel)) (by decide) (fun _ _ _ _ _ => (g_one 2 S.nd)) (fun _ _ _ _ _ => p_nil) (fun _ _ _ _ _ => (d_ix (d_ix (d_var 2) d_int) d_int))) d_nil)))))
theorem ok_first_sheet (T : Txt K mg) {k : Nat}
    (G_at_place : FnOk P w K mg base (L2.CX P w) (k) T.a_at_place T.fd_at_place ["row", "place"] (spD K mg 2 g_at_place)) : FnOk P w K mg base (L2.CX P w) (k + 1) T.a_first_sheet T.fd_first_sheet ["net", "channel"] (spD K mg 2 g_first_sheet) :=
  have S := sc_first_sheet
  fn_ok (k := k) T.F_first_sheet S fun cdv A outer s H E hr tk hp =>
    (ss_one (s_ret (d_tup (d_cons (d_var 1) (d_cons d_int (d_cons (d_callTy call_tuple_of tup_ok (by rfl) T.z_tuple PyProof.Rows.boot_tuple (d_cons (d_sl (d_fn G_at_place hr T.g_at_place T.F_at_place.kp T.b_at_place tk (d_cons (d_var 0) (d_cons (d_var 1) d_nil))) (o_some d_int) o_none) d_nil)) (d_cons (d_tup d_nil) d_nil)))))))
theorem ok_total (T : Txt K mg) {k : Nat} : FnOk P w K mg base (L2.CX P w) (k + 1) T.a_total T.fd_total ["sheet"] (spD K mg 1 g_total) :=
  have S := sc_total
  fn_ok (k := k) T.F_total S fun cdv A outer s H E hr tk hp =>
    (ss_one (s_ret (d_op op_addA addD_ok (d_callB (CallR.or (cr_sum rfl) (cr_sumT rfl)) sum_ok (by rfl) T.z_sum (by decide +kernel) (d_cons (d_ix (d_var 0) d_int) d_nil)) (d_callB (CallR.or (cr_sum rfl) (cr_sumT rfl)) sum_ok (by rfl) T.z_sum (by decide +kernel) (d_cons (d_lc [("lock", 1)] rfl S.nd (i_seq (d_ix (d_var 0) d_int)) (blkOk_by (N := N_total) (sc := (defScope s_total)) (by decide +kernel)) (by decide) (fun _ _ _ _ _ => (g_one 1 S.nd)) (fun _ _ _ _ _ => p_nil) (fun _ _ _ _ _ => (d_ix (d_var 1) d_int))) d_nil)))))
theorem ok_channel_of (T : Txt K mg) {k : Nat} : FnOk P w K mg base (L2.CX P w) (k + 1) T.a_channel_of T.fd_channel_of ["letter"] (spD K mg 1 g_channel_of) :=
  have S := sc_channel_of
  fn_ok (k := k) T.F_channel_of S fun cdv A outer s H E hr tk hp =>
    (ss_one (s_ret (d_if (t_cmp (op_inA (u65 hr)) in_ok (d_ix (d_var 0) d_int) (d_tupM T.tc__OF_SHEETS T.tg__OF_SHEETS) (by rfl)) (d_ix (d_ix (d_var 0) d_int) d_int) (d_ix (d_var 0) d_int))))
theorem ok__law_box (T : Txt K mg) {k : Nat} : FnOk P w K mg base (L2.CX P w) (k + 1) T.a__law_box T.fd__law_box ["script", "k"] (spD K mg 2 g__law_box) :=
  have S := sc__law_box
  fn_ok (k := k) T.F__law_box S fun cdv A outer s H E hr tk hp =>
    (ss_cons (s_set 2 S.nd (d_if (t_cmp op_lt ord_ok (d_var 1) (d_callB call_len_seq len_ok (by rfl) T.z_len PySem.boot_len (d_cons (d_var 0) d_nil)) (nomark _)) (d_ix (d_var 0) (d_var 1)) d_int))
      (ss_one (s_ret (d_lst (d_cons (d_op op_mulA mulD_ok (d_callB call_abs abs_ok (by rfl) T.z_abs PyProof.Rows.boot_abs (d_cons (d_var 2) d_nil)) (d_callTy call_int1 int_ok (by rfl) T.z_int PyProof.Rows.boot_int (d_cons (d_cmp op_ge ord_ok (d_callB call_abs abs_ok (by rfl) T.z_abs PyProof.Rows.boot_abs (d_cons (d_var 2) d_nil)) (d_op op_pow pow_ok d_int d_int) (nomark _)) d_nil))) (d_cons (d_op op_addA addD_ok (d_op op_addA addD_ok (d_op op_mod mod_ok (d_callTy call_int1 int_ok (by rfl) T.z_int PyProof.Rows.boot_int (d_cons (d_var 2) d_nil)) d_int) (d_op op_mulA mulD_ok d_int (d_var 1))) d_int) (d_cons d_int d_nil)))))))
theorem ok__law_take (T : Txt K mg) {k : Nat} : FnOk P w K mg base (L2.CX P w) (k + 1) T.a__law_take T.fd__law_take ["urn", "low_so"] (spD K mg 2 g__law_take) :=
  have S := sc__law_take
  fn_ok (k := k) T.F__law_take S fun cdv A outer s H E hr tk hp =>
    (ss_cons (s_if (t_cmp op_gt ord_ok (d_ix (d_var 0) d_int) d_int (nomark _)) (ss_cons (s_set 2 S.nd (d_op op_mod mod_ok (d_callTy call_int1 int_ok (by rfl) T.z_int PyProof.Rows.boot_int (d_cons (d_ix (d_var 0) d_int) d_nil)) (d_var 1)))
      (ss_cons (s_sub (d_var 0) d_int (d_op op_fdiv fdiv_ok (d_ix (d_var 0) d_int) (d_var 1)))
      (ss_one (s_ret (d_var 2))))) ss_nil)
      (ss_cons (s_sub (d_var 0) d_int (d_op op_addA addD_ok (d_ix (d_var 0) d_int) d_int))
      (ss_cons (s_set 3 S.nd (d_op op_mod mod_ok (d_callTy call_int1 int_ok (by rfl) T.z_int PyProof.Rows.boot_int (d_cons (d_op op_mulA mulD_ok (d_op op_addA addD_ok (d_ix (d_var 0) d_int) (d_op op_mulA mulD_ok d_int (d_ix (d_var 0) d_int))) (d_op op_addA addD_ok d_int (d_ix (d_var 0) d_int))) d_nil)) d_int))
      (ss_cons (s_set 4 S.nd (d_op op_addA addD_ok (d_op op_mod mod_ok (d_callTy call_int1 int_ok (by rfl) T.z_int PyProof.Rows.boot_int (d_cons (d_var 3) d_nil)) d_int) d_int))
      (ss_cons (s_set 5 S.nd (d_op op_mod mod_ok (d_callTy call_int1 int_ok (by rfl) T.z_int PyProof.Rows.boot_int (d_cons (d_op op_mulA mulD_ok (d_op op_addA addD_ok (d_op op_addA addD_ok (d_var 3) (d_ix (d_var 0) d_int)) (d_op op_fdiv fdiv_ok (d_ix (d_var 0) d_int) d_int)) (d_var 4)) d_nil)) d_int))
      (ss_one (s_ret (d_op op_mod mod_ok (d_callTy call_int1 int_ok (by rfl) T.z_int PyProof.Rows.boot_int (d_cons (d_op op_fdiv fdiv_ok (d_op op_mod mod_ok (d_callTy call_int1 int_ok (by rfl) T.z_int PyProof.Rows.boot_int (d_cons (d_op op_addA addD_ok (d_op op_mulA mulD_ok (d_var 5) d_int) (d_var 3)) d_nil)) d_int) d_int) d_nil)) (d_var 1)))))))))
theorem ok__law_cells (T : Txt K mg) {k : Nat} : FnOk P w K mg base (L2.CX P w) (k + 1) T.a__law_cells T.fd__law_cells ["script", "top"] (spD K mg 2 g__law_cells) :=
  have S := sc__law_cells
  fn_ok (k := k) T.F__law_cells S fun cdv A outer s H E hr tk hp =>
    (ss_cons (s_set 2 S.nd (d_or (d_callTy call_list_of list_ok (by rfl) T.z_list PyProof.Rows.boot_list (d_cons (d_sl (d_var 0) o_none (o_some (d_var 1))) d_nil)) (d_one (d_lst (d_cons d_int d_nil)))))
      (ss_cons (s_for hp rfl (i_enum (by rfl) T.z_enumerate (d_cons (d_sl (d_var 0) (o_some (d_var 1)) (o_some d_int)) d_nil)) (g_many rfl (gs_cons 3 S.nd (gs_cons 4 S.nd gs_nil))) (ss_cons (s_set 5 S.nd (d_op op_mod mod_ok (d_callTy call_int1 int_ok (by rfl) T.z_int PyProof.Rows.boot_int (d_cons (d_var 3) d_nil)) (d_var 1)))
      (ss_one (s_sub (d_var 2) (d_var 5) (d_op op_addA addD_ok (d_ix (d_var 2) (d_var 5)) (d_op op_mulA mulD_ok (d_var 4) (d_op op_addA addD_ok (d_var 3) d_int)))))))
      (ss_one (s_ret (d_var 2)))))
theorem ok__law_of (T : Txt K mg) {k : Nat}
    (G__law_take : FnOk P w K mg base (L2.CX P w) (k) T.a__law_take T.fd__law_take ["urn", "low_so"] (spD K mg 2 g__law_take)) : FnOk P w K mg base (L2.CX P w) (k + 1) T.a__law_of T.fd__law_of ["urn", "some_so"] (spD K mg 2 g__law_of) :=
  have S := sc__law_of
  fn_ok (k := k) T.F__law_of S fun cdv A outer s H E hr tk hp =>
    (ss_one (s_ret (d_ix (d_var 1) (d_fn G__law_take hr T.g__law_take T.F__law_take.kp T.b__law_take tk (d_cons (d_var 0) (d_cons (d_callB call_len_seq len_ok (by rfl) T.z_len PySem.boot_len (d_cons (d_var 1) d_nil)) d_nil))))))
theorem ok__law_lists (T : Txt K mg) {k : Nat} {self : List D → Sto → R D} (SELF : FnOk P w K mg base (L2.CX P w) k T.a__law_lists T.fd__law_lists ["matter"] (spD K mg 1 self)) : FnOk P w K mg base (L2.CX P w) (k + 1) T.a__law_lists T.fd__law_lists ["matter"] (spD K mg 1 (runM 2 (b__law_lists self))) :=
  have S := sc__law_lists
  fn_ok (k := k) T.F__law_lists S fun cdv A outer s H E hr tk hp =>
    (ss_one (s_ret (d_if (t_tru (d_isT (by rfl) T.z_isinstance (d_var 0) (d_cons (d_ty .list (by rfl) T.z_list PyProof.Rows.boot_list) (d_cons (d_ty .tuple (by rfl) T.z_tuple PyProof.Rows.boot_tuple) d_nil)))) (d_lc [("bit", 1)] rfl S.nd (i_seq (d_var 0)) (blkOk_by (N := N__law_lists) (sc := (defScope s__law_lists)) (by decide +kernel)) (by decide) (fun _ _ _ _ _ => (g_one 1 S.nd)) (fun _ _ _ _ _ => p_nil) (fun _ _ _ _ _ => (d_fn SELF hr T.g__law_lists T.F__law_lists.kp T.b__law_lists takes0 (d_cons (d_var 1) d_nil)))) (d_var 0))))
theorem ok__law_same (T : Txt K mg) {k : Nat} {self : List D → Sto → R D} (SELF : FnOk P w K mg base (L2.CX P w) k T.a__law_same T.fd__law_same ["got", "goal"] (spD K mg 2 self)) : FnOk P w K mg base (L2.CX P w) (k + 1) T.a__law_same T.fd__law_same ["got", "goal"] (spD K mg 2 (runM 4 (b__law_same self))) :=
  have S := sc__law_same
  fn_ok (k := k) T.F__law_same S fun cdv A outer s H E hr tk hp =>
    (ss_cons (s_if (t_tru (d_isT (by rfl) T.z_isinstance (d_var 1) (d_cons (d_ty .list (by rfl) T.z_list PyProof.Rows.boot_list) (d_cons (d_ty .tuple (by rfl) T.z_tuple PyProof.Rows.boot_tuple) d_nil)))) (ss_cons (s_if (PW.pt (w_or (t_cmp (op_neD hr.units) ne_ok (d_callB call_isi is_ok (by rfl) T.z_isinstance PyProof.Rows.boot_isinstance (d_cons (d_var 0) (d_cons (d_ty .list (by rfl) T.z_list PyProof.Rows.boot_list) d_nil))) (d_callB call_isi is_ok (by rfl) T.z_isinstance PyProof.Rows.boot_isinstance (d_cons (d_var 1) (d_cons (d_ty .list (by rfl) T.z_list PyProof.Rows.boot_list) d_nil))) (nomark _)) (w_or1 (t_cmp (op_neD hr.units) ne_ok (d_callB call_isi is_ok (by rfl) T.z_isinstance PyProof.Rows.boot_isinstance (d_cons (d_var 0) (d_cons (d_ty .tuple (by rfl) T.z_tuple PyProof.Rows.boot_tuple) d_nil))) (d_callB call_isi is_ok (by rfl) T.z_isinstance PyProof.Rows.boot_isinstance (d_cons (d_var 1) (d_cons (d_ty .tuple (by rfl) T.z_tuple PyProof.Rows.boot_tuple) d_nil))) (nomark _))))) (ss_one (s_ret d_bl)) ss_nil)
      (ss_one (s_ret (d_and (d_cmp (op_eqD hr.units) eq_ok (d_callB call_len_seq len_ok (by rfl) T.z_len PySem.boot_len (d_cons (d_var 0) d_nil)) (d_callB call_len_seq len_ok (by rfl) T.z_len PySem.boot_len (d_cons (d_var 1) d_nil)) (nomark _)) (d_one (d_callB (cr_all rfl) bl_ok (by rfl) T.z_all (by decide +kernel) (d_cons (d_lc [("mine_so", 2), ("own", 3)] rfl S.nd (i_zip (by rfl) T.z_zip (d_cons (d_var 0) (d_cons (d_var 1) d_nil))) (blkOk_by (N := N__law_same) (sc := (defScope s__law_same)) (by decide +kernel)) (by decide) (fun _ _ _ _ _ => (g_many rfl (gs_cons 2 S.nd (gs_cons 3 S.nd gs_nil)))) (fun _ _ _ _ _ => p_nil) (fun _ _ _ _ _ => (d_fn SELF hr T.g__law_same T.F__law_same.kp T.b__law_same takes0 (d_cons (d_var 2) (d_cons (d_var 3) d_nil))))) d_nil))))))) ss_nil)
      (ss_cons (s_if (PW.pt (w_or (t_cmp op_isN isN_ok (d_var 1) d_non (nomark _)) (w_or1 (t_tru (d_isT (by rfl) T.z_isinstance (d_var 1) (d_cons (d_ty .bool (by rfl) T.z_bool PyProof.Rows.boot_bool) (d_cons (d_ty .str (by rfl) T.z_str PyProof.Rows.boot_str) d_nil))))))) (ss_one (s_ret (d_and (d_cmp (op_eqD hr.units) eq_ok (d_var 0) (d_var 1) (nomark _)) (d_and (d_cmp (op_eqD hr.units) eq_ok (d_callB call_isi is_ok (by rfl) T.z_isinstance PyProof.Rows.boot_isinstance (d_cons (d_var 0) (d_cons (d_ty .bool (by rfl) T.z_bool PyProof.Rows.boot_bool) d_nil))) (d_callB call_isi is_ok (by rfl) T.z_isinstance PyProof.Rows.boot_isinstance (d_cons (d_var 1) (d_cons (d_ty .bool (by rfl) T.z_bool PyProof.Rows.boot_bool) d_nil))) (nomark _)) (d_one (d_cmp (op_eqD hr.units) eq_ok (d_cmp op_isN isN_ok (d_var 0) d_non (nomark _)) (d_cmp op_isN isN_ok (d_var 1) d_non (nomark _)) (nomark _))))))) ss_nil)
      (ss_one (s_ret (d_and (d_callB call_isi is_ok (by rfl) T.z_isinstance PyProof.Rows.boot_isinstance (d_cons (d_var 0) (d_cons (d_ty .int (by rfl) T.z_int PyProof.Rows.boot_int) d_nil))) (d_and (d_not (d_callB call_isi is_ok (by rfl) T.z_isinstance PyProof.Rows.boot_isinstance (d_cons (d_var 0) (d_cons (d_ty .bool (by rfl) T.z_bool PyProof.Rows.boot_bool) d_nil)))) (d_one (d_cmp (op_eqD hr.units) eq_ok (d_var 0) (d_var 1) (nomark _)))))))))
theorem ok__law_pick (T : Txt K mg) {k : Nat}
    (G__law_take : FnOk P w K mg base (L2.CX P w) (k) T.a__law_take T.fd__law_take ["urn", "low_so"] (spD K mg 2 g__law_take)) : FnOk P w K mg base (L2.CX P w) (k + 1) T.a__law_pick T.fd__law_pick ["urn", "goods_so", "many"] (spD K mg 3 g__law_pick) :=
  have S := sc__law_pick
  fn_ok (k := k) T.F__law_pick S fun cdv A outer s H E hr tk hp =>
    (ss_cons (s_par 3 4 rfl S.nd (d_callTy call_list_of list_ok (by rfl) T.z_list PyProof.Rows.boot_list (d_cons (d_var 1) d_nil)) (d_lst d_nil) (by rfl))
      (ss_cons (s_for hp rfl (i_rng1 (by rfl) T.z_range (d_cons (d_callB (CallR.or (call_min2 rfl) (cr_min rfl)) min_ok (by rfl) T.z_min (by decide +kernel) (d_cons (d_var 2) (d_cons (d_callB call_len_seq len_ok (by rfl) T.z_len PySem.boot_len (d_cons (d_var 3) d_nil)) d_nil))) d_nil)) (g_one 5 S.nd) (ss_one (s_expr (d_app (d_var 4) (d_popA (d_var 3) (d_fn G__law_take hr T.g__law_take T.F__law_take.kp T.b__law_take tk (d_cons (d_var 0) (d_cons (d_callB call_len_seq len_ok (by rfl) T.z_len PySem.boot_len (d_cons (d_var 3) d_nil)) d_nil))))))))
      (ss_one (s_ret (d_var 4)))))
theorem ok__law_net (T : Txt K mg) {k : Nat} : FnOk P w K mg base (L2.CX P w) (k + 1) T.a__law_net T.fd__law_net [] (spD K mg 0 g__law_net) :=
  have S := sc__law_net
  fn_ok (k := k) T.F__law_net S fun cdv A outer s H E hr tk hp =>
    (ss_one (s_ret (d_tup (d_cons (d_tup (d_cons d_int (d_cons d_int (d_cons d_int (d_cons d_int d_nil))))) (d_cons (d_tup (d_cons d_int (d_cons d_int (d_cons d_int (d_cons d_int d_nil))))) d_nil)))))
theorem ok__law_lent (T : Txt K mg) {k : Nat} : FnOk P w K mg base (L2.CX P w) (k + 1) T.a__law_lent T.fd__law_lent [] (spD K mg 0 g__law_lent) :=
  have S := sc__law_lent
  fn_ok (k := k) T.F__law_lent S fun cdv A outer s H E hr tk hp =>
    (ss_one (s_ret (d_tup (d_cons d_int (d_cons d_int (d_cons (d_tup (d_cons d_int (d_cons d_int d_nil))) (d_cons (d_tup (d_cons (d_tup (d_cons d_int (d_cons d_int (d_cons (d_tup (d_cons d_str (d_cons d_int d_nil))) (d_cons d_int d_nil))))) d_nil)) d_nil)))))))
theorem ok__law_locks (T : Txt K mg) {k : Nat}
    (G__law_pick : FnOk P w K mg base (L2.CX P w) (k) T.a__law_pick T.fd__law_pick ["urn", "goods_so", "many"] (spD K mg 3 g__law_pick))
    (G__law_take : FnOk P w K mg base (L2.CX P w) (k) T.a__law_take T.fd__law_take ["urn", "low_so"] (spD K mg 2 g__law_take)) : FnOk P w K mg base (L2.CX P w) (k + 1) T.a__law_locks T.fd__law_locks ["urn", "most"] (spD K mg 2 g__law_locks) :=
  have S := sc__law_locks
  fn_ok (k := k) T.F__law_locks S fun cdv A outer s H E hr tk hp =>
    (ss_cons (s_set 2 S.nd (d_lst d_nil))
      (ss_cons (s_for hp rfl (i_seq (d_fn G__law_pick hr T.g__law_pick T.F__law_pick.kp T.b__law_pick tk (d_cons (d_var 0) (d_cons (d_lst (d_cons d_int (d_cons d_int (d_cons d_int (d_cons d_int (d_cons d_int d_nil)))))) (d_cons (d_fn G__law_take hr T.g__law_take T.F__law_take.kp T.b__law_take tk (d_cons (d_var 0) (d_cons (d_op op_addA addD_ok (d_var 1) d_int) d_nil))) d_nil))))) (g_one 3 S.nd) (ss_one (s_expr (d_app (d_var 2) (d_tup (d_cons (d_fn G__law_take hr T.g__law_take T.F__law_take.kp T.b__law_take tk (d_cons (d_var 0) (d_cons d_int d_nil))) (d_cons (d_op op_addA addD_ok d_int (d_fn G__law_take hr T.g__law_take T.F__law_take.kp T.b__law_take tk (d_cons (d_var 0) (d_cons d_int d_nil)))) (d_cons (d_tup (d_cons d_str (d_cons (d_var 3) d_nil))) (d_cons (d_fn G__law_take hr T.g__law_take T.F__law_take.kp T.b__law_take tk (d_cons (d_var 0) (d_cons d_int d_nil))) d_nil)))))))))
      (ss_one (s_ret (d_callTy call_tuple_of tup_ok (by rfl) T.z_tuple PyProof.Rows.boot_tuple (d_cons (d_var 2) d_nil))))))
theorem ok__law_is_count (T : Txt K mg) {k : Nat} : FnOk P w K mg base (L2.CX P w) (k + 1) T.a__law_is_count T.fd__law_is_count ["own"] (spD K mg 1 g__law_is_count) :=
  have S := sc__law_is_count
  fn_ok (k := k) T.F__law_is_count S fun cdv A outer s H E hr tk hp =>
    (ss_one (s_ret (d_and (d_callB call_isi is_ok (by rfl) T.z_isinstance PyProof.Rows.boot_isinstance (d_cons (d_var 0) (d_cons (d_ty .int (by rfl) T.z_int PyProof.Rows.boot_int) d_nil))) (d_and (d_not (d_callB call_isi is_ok (by rfl) T.z_isinstance PyProof.Rows.boot_isinstance (d_cons (d_var 0) (d_cons (d_ty .bool (by rfl) T.z_bool PyProof.Rows.boot_bool) d_nil)))) (d_one (d_cmp op_ge ord_ok (d_var 0) d_int (nomark _)))))))
theorem ok__law_is_image (T : Txt K mg) {k : Nat}
    (G__law_is_count : FnOk P w K mg base (L2.CX P w) (k) T.a__law_is_count T.fd__law_is_count ["own"] (spD K mg 1 g__law_is_count)) : FnOk P w K mg base (L2.CX P w) (k + 1) T.a__law_is_image T.fd__law_is_image ["own"] (spD K mg 1 g__law_is_image) :=
  have S := sc__law_is_image
  fn_ok (k := k) T.F__law_is_image S fun cdv A outer s H E hr tk hp =>
    (ss_one (s_ret (d_and (d_callB call_isi is_ok (by rfl) T.z_isinstance PyProof.Rows.boot_isinstance (d_cons (d_var 0) (d_cons (d_ty .tuple (by rfl) T.z_tuple PyProof.Rows.boot_tuple) d_nil))) (d_and (d_cmp (op_eqD hr.units) eq_ok (d_callB call_len_seq len_ok (by rfl) T.z_len PySem.boot_len (d_cons (d_var 0) d_nil)) d_int (nomark _)) (d_and (d_callB call_isi is_ok (by rfl) T.z_isinstance PyProof.Rows.boot_isinstance (d_cons (d_ix (d_var 0) d_int) (d_cons (d_ty .str (by rfl) T.z_str PyProof.Rows.boot_str) d_nil))) (d_and (d_cmp (op_eqD hr.units) eq_ok (d_ix (d_var 0) d_int) d_str (nomark _)) (d_one (d_fn G__law_is_count hr T.g__law_is_count T.F__law_is_count.kp T.b__law_is_count tk (d_cons (d_ix (d_var 0) d_int) d_nil)))))))))
theorem ok__law_is_lock (T : Txt K mg) {k : Nat}
    (G__law_is_count : FnOk P w K mg base (L2.CX P w) (k) T.a__law_is_count T.fd__law_is_count ["own"] (spD K mg 1 g__law_is_count))
    (G__law_is_image : FnOk P w K mg base (L2.CX P w) (k) T.a__law_is_image T.fd__law_is_image ["own"] (spD K mg 1 g__law_is_image)) : FnOk P w K mg base (L2.CX P w) (k + 1) T.a__law_is_lock T.fd__law_is_lock ["own"] (spD K mg 1 g__law_is_lock) :=
  have S := sc__law_is_lock
  fn_ok (k := k) T.F__law_is_lock S fun cdv A outer s H E hr tk hp =>
    (ss_cons (s_if (PW.pt (w_or (t_not (t_tru (d_callB call_isi is_ok (by rfl) T.z_isinstance PyProof.Rows.boot_isinstance (d_cons (d_var 0) (d_cons (d_ty .tuple (by rfl) T.z_tuple PyProof.Rows.boot_tuple) d_nil))))) (w_or (t_cmp (op_neD hr.units) ne_ok (d_callB call_len_seq len_ok (by rfl) T.z_len PySem.boot_len (d_cons (d_var 0) d_nil)) d_int (nomark _)) (w_or1 (t_not (t_tru (d_fn G__law_is_image hr T.g__law_is_image T.F__law_is_image.kp T.b__law_is_image tk (d_cons (d_ix (d_var 0) d_int) d_nil)))))))) (ss_one (s_ret d_bl)) ss_nil)
      (ss_cons (s_if (PW.pt (w_or (t_not (t_tru (d_fn G__law_is_count hr T.g__law_is_count T.F__law_is_count.kp T.b__law_is_count tk (d_cons (d_ix (d_var 0) d_int) d_nil)))) (w_or (t_not (t_tru (d_fn G__law_is_count hr T.g__law_is_count T.F__law_is_count.kp T.b__law_is_count tk (d_cons (d_ix (d_var 0) d_int) d_nil)))) (w_or1 (t_not (t_tru (d_fn G__law_is_count hr T.g__law_is_count T.F__law_is_count.kp T.b__law_is_count tk (d_cons (d_ix (d_var 0) d_int) d_nil)))))))) (ss_one (s_ret d_bl)) ss_nil)
      (ss_one (s_ret (d_and (d_cmp op_lt ord_ok (d_ix (d_var 0) d_int) d_int (nomark _)) (d_one (d_cmp op_gt ord_ok (d_ix (d_var 0) d_int) d_int (nomark _))))))))
theorem ok__law_is_sheet (T : Txt K mg) {k : Nat}
    (G__law_is_count : FnOk P w K mg base (L2.CX P w) (k) T.a__law_is_count T.fd__law_is_count ["own"] (spD K mg 1 g__law_is_count))
    (G__law_is_lock : FnOk P w K mg base (L2.CX P w) (k) T.a__law_is_lock T.fd__law_is_lock ["own"] (spD K mg 1 g__law_is_lock)) : FnOk P w K mg base (L2.CX P w) (k + 1) T.a__law_is_sheet T.fd__law_is_sheet ["net_so", "own"] (spD K mg 2 g__law_is_sheet) :=
  have S := sc__law_is_sheet
  fn_ok (k := k) T.F__law_is_sheet S fun cdv A outer s H E hr tk hp =>
    (ss_cons (s_if (PW.pt (w_or (t_not (t_tru (d_callB call_isi is_ok (by rfl) T.z_isinstance PyProof.Rows.boot_isinstance (d_cons (d_var 1) (d_cons (d_ty .tuple (by rfl) T.z_tuple PyProof.Rows.boot_tuple) d_nil))))) (w_or (t_cmp (op_neD hr.units) ne_ok (d_callB call_len_seq len_ok (by rfl) T.z_len PySem.boot_len (d_cons (d_var 1) d_nil)) d_int (nomark _)) (w_or (t_not (t_tru (d_fn G__law_is_count hr T.g__law_is_count T.F__law_is_count.kp T.b__law_is_count tk (d_cons (d_ix (d_var 1) d_int) d_nil)))) (w_or (t_not (t_tru (d_fn G__law_is_count hr T.g__law_is_count T.F__law_is_count.kp T.b__law_is_count tk (d_cons (d_ix (d_var 1) d_int) d_nil)))) (w_or1 (t_cmp op_ge ord_ok (d_ix (d_var 1) d_int) (d_callB call_len_seq len_ok (by rfl) T.z_len PySem.boot_len (d_cons (d_var 0) d_nil)) (nomark _)))))))) (ss_one (s_ret d_bl)) ss_nil)
      (ss_cons (s_if (PW.pt (w_or (t_not (t_tru (d_callB call_isi is_ok (by rfl) T.z_isinstance PyProof.Rows.boot_isinstance (d_cons (d_ix (d_var 1) d_int) (d_cons (d_ty .tuple (by rfl) T.z_tuple PyProof.Rows.boot_tuple) d_nil))))) (w_or (t_cmp (op_neD hr.units) ne_ok (d_callB call_len_seq len_ok (by rfl) T.z_len PySem.boot_len (d_cons (d_ix (d_var 1) d_int) d_nil)) d_int (nomark _)) (w_or1 (t_cmp (op_neD hr.units) ne_ok (d_lc [("its", 2)] rfl S.nd (i_seq (d_ix (d_var 1) d_int)) (blkOk_by (N := N__law_is_sheet) (sc := (defScope s__law_is_sheet)) (by decide +kernel)) (by decide) (fun _ _ _ _ _ => (g_one 2 S.nd)) (fun _ _ _ _ _ => (p_one (t_not (t_tru (d_fn G__law_is_count hr T.g__law_is_count T.F__law_is_count.kp T.b__law_is_count takes0 (d_cons (d_var 2) d_nil)))))) (fun _ _ _ _ _ => d_int)) (d_lst d_nil) (nomark _)))))) (ss_one (s_ret d_bl)) ss_nil)
      (ss_cons (s_if (PW.pt (w_or (t_not (t_tru (d_callB call_isi is_ok (by rfl) T.z_isinstance PyProof.Rows.boot_isinstance (d_cons (d_ix (d_var 1) d_int) (d_cons (d_ty .tuple (by rfl) T.z_tuple PyProof.Rows.boot_tuple) d_nil))))) (w_or1 (t_cmp (op_neD hr.units) ne_ok (d_lc [("its", 2)] rfl S.nd (i_seq (d_ix (d_var 1) d_int)) (blkOk_by (N := N__law_is_sheet) (sc := (defScope s__law_is_sheet)) (by decide +kernel)) (by decide) (fun _ _ _ _ _ => (g_one 2 S.nd)) (fun _ _ _ _ _ => (p_one (t_not (t_tru (d_fn G__law_is_lock hr T.g__law_is_lock T.F__law_is_lock.kp T.b__law_is_lock takes0 (d_cons (d_var 2) d_nil)))))) (fun _ _ _ _ _ => d_int)) (d_lst d_nil) (nomark _))))) (ss_one (s_ret d_bl)) ss_nil)
      (ss_cons (s_setLc 3 [("its", 2)] rfl S.nd (i_seq (d_ix (d_var 1) d_int)) (blkOk_by (N := N__law_is_sheet) (sc := (defScope s__law_is_sheet)) (by decide +kernel)) (by decide) (fun _ _ _ _ _ => (g_one 2 S.nd)) (fun _ _ _ _ _ => p_nil) (fun _ _ _ _ _ => (d_ix (d_var 2) d_int)) (sw_true rfl rfl rfl (by decide +kernel)))
      (ss_cons (s_set 4 S.nd (d_op op_addA addD_ok (d_ix (d_ix (d_var 0) (d_ix (d_var 1) d_int)) d_int) (d_ix (d_ix (d_var 0) (d_ix (d_var 1) d_int)) d_int)))
      (ss_cons (s_if (PW.pt (w_or (t_cmp (op_neD hr.units) ne_ok (d_lenSetT (u20 hr) (by rfl) T.z_len (by rfl) T.z_set (d_var 3)) (d_callB call_len_seq len_ok (by rfl) T.z_len PySem.boot_len (d_cons (d_var 3) d_nil)) (nomark _)) (w_or1 (t_cmp (op_neD hr.units) ne_ok (d_op op_addA addD_ok (d_callB (CallR.or (cr_sum rfl) (cr_sumT rfl)) sum_ok (by rfl) T.z_sum (by decide +kernel) (d_cons (d_ix (d_var 1) d_int) d_nil)) (d_callB (CallR.or (cr_sum rfl) (cr_sumT rfl)) sum_ok (by rfl) T.z_sum (by decide +kernel) (d_cons (d_lc [("its", 2)] rfl S.nd (i_seq (d_ix (d_var 1) d_int)) (blkOk_by (N := N__law_is_sheet) (sc := (defScope s__law_is_sheet)) (by decide +kernel)) (by decide) (fun _ _ _ _ _ => (g_one 2 S.nd)) (fun _ _ _ _ _ => p_nil) (fun _ _ _ _ _ => (d_ix (d_var 2) d_int))) d_nil))) (d_var 4) (nomark _))))) (ss_one (s_ret d_bl)) ss_nil)
      (ss_one (s_ret (d_or (d_cmp op_gt ord_ok (d_ix (d_var 1) d_int) d_int (nomark _)) (d_one (d_and (d_cmp (op_eqD hr.units) eq_ok (d_ix (d_var 1) d_int) (d_sl (d_ix (d_var 0) (d_ix (d_var 1) d_int)) (o_some d_int) o_none) (nomark _)) (d_one (d_cmp (op_eqD hr.units) eq_ok (d_ix (d_var 1) d_int) (d_tup d_nil) (nomark _))))))))))))))
theorem ok__law_is_letter (T : Txt K mg) {k : Nat}
    (G__law_is_count : FnOk P w K mg base (L2.CX P w) (k) T.a__law_is_count T.fd__law_is_count ["own"] (spD K mg 1 g__law_is_count))
    (G__law_is_image : FnOk P w K mg base (L2.CX P w) (k) T.a__law_is_image T.fd__law_is_image ["own"] (spD K mg 1 g__law_is_image))
    (G__law_is_sheet : FnOk P w K mg base (L2.CX P w) (k) T.a__law_is_sheet T.fd__law_is_sheet ["net_so", "own"] (spD K mg 2 g__law_is_sheet)) : FnOk P w K mg base (L2.CX P w) (k + 1) T.a__law_is_letter T.fd__law_is_letter ["net_so", "own"] (spD K mg 2 g__law_is_letter) :=
  have S := sc__law_is_letter
  fn_ok (k := k) T.F__law_is_letter S fun cdv A outer s H E hr tk hp =>
    (ss_cons (s_if (PW.pt (w_or (t_not (t_tru (d_callB call_isi is_ok (by rfl) T.z_isinstance PyProof.Rows.boot_isinstance (d_cons (d_var 1) (d_cons (d_ty .tuple (by rfl) T.z_tuple PyProof.Rows.boot_tuple) d_nil))))) (w_or (t_cmp op_lt ord_ok (d_callB call_len_seq len_ok (by rfl) T.z_len PySem.boot_len (d_cons (d_var 1) d_nil)) d_int (nomark _)) (w_or1 (t_not (t_tru (d_callB call_isi is_ok (by rfl) T.z_isinstance PyProof.Rows.boot_isinstance (d_cons (d_ix (d_var 1) d_int) (d_cons (d_ty .str (by rfl) T.z_str PyProof.Rows.boot_str) d_nil))))))))) (ss_one (s_ret d_bl)) ss_nil)
      (ss_cons (s_if (t_cmp (op_inA (u65 hr)) in_ok (d_ix (d_var 1) d_int) (d_tup (d_cons d_str (d_cons d_str d_nil))) (by rfl)) (ss_one (s_ret (d_and (d_cmp (op_eqD hr.units) eq_ok (d_callB call_len_seq len_ok (by rfl) T.z_len PySem.boot_len (d_cons (d_var 1) d_nil)) d_int (nomark _)) (d_one (d_fn G__law_is_sheet hr T.g__law_is_sheet T.F__law_is_sheet.kp T.b__law_is_sheet tk (d_cons (d_var 0) (d_cons (d_ix (d_var 1) d_int) d_nil))))))) ss_nil)
      (ss_cons (s_if (PW.pt (w_or (t_cmp (op_notInA (u65 hr)) notIn_ok (d_ix (d_var 1) d_int) (d_tup (d_cons d_str (d_cons d_str (d_cons d_str d_nil)))) (by rfl)) (w_or (t_not (t_tru (d_fn G__law_is_count hr T.g__law_is_count T.F__law_is_count.kp T.b__law_is_count tk (d_cons (d_ix (d_var 1) d_int) d_nil)))) (w_or1 (t_cmp op_ge ord_ok (d_ix (d_var 1) d_int) (d_callB call_len_seq len_ok (by rfl) T.z_len PySem.boot_len (d_cons (d_var 0) d_nil)) (nomark _)))))) (ss_one (s_ret d_bl)) ss_nil)
      (ss_cons (s_if (t_cmp (op_neD hr.units) ne_ok (d_ix (d_var 1) d_int) d_str (nomark _)) (ss_one (s_ret (d_and (d_cmp (op_eqD hr.units) eq_ok (d_callB call_len_seq len_ok (by rfl) T.z_len PySem.boot_len (d_cons (d_var 1) d_nil)) d_int (nomark _)) (d_one (d_fn G__law_is_count hr T.g__law_is_count T.F__law_is_count.kp T.b__law_is_count tk (d_cons (d_ix (d_var 1) d_int) d_nil)))))) ss_nil)
      (ss_cons (s_if (PW.pt (w_or (t_cmp (op_neD hr.units) ne_ok (d_callB call_len_seq len_ok (by rfl) T.z_len PySem.boot_len (d_cons (d_var 1) d_nil)) d_int (nomark _)) (w_or (t_not (t_tru (d_fn G__law_is_image hr T.g__law_is_image T.F__law_is_image.kp T.b__law_is_image tk (d_cons (d_ix (d_var 1) d_int) d_nil)))) (w_or (t_not (t_tru (d_callB call_isi is_ok (by rfl) T.z_isinstance PyProof.Rows.boot_isinstance (d_cons (d_ix (d_var 1) d_int) (d_cons (d_ty .tuple (by rfl) T.z_tuple PyProof.Rows.boot_tuple) d_nil))))) (w_or1 (t_not (t_tru (d_callB call_isi is_ok (by rfl) T.z_isinstance PyProof.Rows.boot_isinstance (d_cons (d_ix (d_var 1) d_int) (d_cons (d_ty .tuple (by rfl) T.z_tuple PyProof.Rows.boot_tuple) d_nil)))))))))) (ss_one (s_ret d_bl)) ss_nil)
      (ss_cons (s_if (PW.pt (w_or (t_cmp (op_neD hr.units) ne_ok (d_lc [("its", 2)] rfl S.nd (i_seq (d_op op_addA addD_ok (d_ix (d_var 1) d_int) (d_ix (d_var 1) d_int))) (blkOk_by (N := N__law_is_letter) (sc := (defScope s__law_is_letter)) (by decide +kernel)) (by decide) (fun _ _ _ _ _ => (g_one 2 S.nd)) (fun _ _ _ _ _ => (p_one (t_not (t_tru (d_fn G__law_is_count hr T.g__law_is_count T.F__law_is_count.kp T.b__law_is_count takes0 (d_cons (d_var 2) d_nil)))))) (fun _ _ _ _ _ => d_int)) (d_lst d_nil) (nomark _)) (w_or1 (t_cmp (op_neD hr.units) ne_ok (d_callB call_len_seq len_ok (by rfl) T.z_len PySem.boot_len (d_cons (d_ix (d_var 1) d_int) d_nil)) (d_callB call_len_seq len_ok (by rfl) T.z_len PySem.boot_len (d_cons (d_ix (d_var 1) d_int) d_nil)) (nomark _))))) (ss_one (s_ret d_bl)) ss_nil)
      (ss_one (s_ret (d_cmp (op_eqD hr.units) eq_ok (d_lc [("its", 2)] rfl S.nd (i_seq (d_ix (d_var 1) d_int)) (blkOk_by (N := N__law_is_letter) (sc := (defScope s__law_is_letter)) (by decide +kernel)) (by decide) (fun _ _ _ _ _ => (g_one 2 S.nd)) (fun _ _ _ _ _ => (p_one (t_cmp op_ge ord_ok (d_var 2) (d_callB call_len_seq len_ok (by rfl) T.z_len PySem.boot_len (d_cons (d_var 0) d_nil)) (nomark _)))) (fun _ _ _ _ _ => d_int)) (d_lst d_nil) (nomark _))))))))))
theorem ok__law_fair_sheet (T : Txt K mg) {k : Nat}
    (G__law_locks : FnOk P w K mg base (L2.CX P w) (k) T.a__law_locks T.fd__law_locks ["urn", "most"] (spD K mg 2 g__law_locks))
    (G__law_net : FnOk P w K mg base (L2.CX P w) (k) T.a__law_net T.fd__law_net [] (spD K mg 0 g__law_net))
    (G__law_take : FnOk P w K mg base (L2.CX P w) (k) T.a__law_take T.fd__law_take ["urn", "low_so"] (spD K mg 2 g__law_take)) : FnOk P w K mg base (L2.CX P w) (k + 1) T.a__law_fair_sheet T.fd__law_fair_sheet ["urn"] (spD K mg 1 g__law_fair_sheet) :=
  have S := sc__law_fair_sheet
  fn_ok (k := k) T.F__law_fair_sheet S fun cdv A outer s H E hr tk hp =>
    (ss_cons (s_set 1 S.nd (d_fn G__law_take hr T.g__law_take T.F__law_take.kp T.b__law_take tk (d_cons (d_var 0) (d_cons d_int d_nil))))
      (ss_cons (s_set 2 S.nd (d_callTy call_tuple_of tup_ok (by rfl) T.z_tuple PyProof.Rows.boot_tuple (d_cons (d_lc [("own", 3)] rfl S.nd (i_seq (d_fn G__law_locks hr T.g__law_locks T.F__law_locks.kp T.b__law_locks tk (d_cons (d_var 0) (d_cons d_int d_nil)))) (blkOk_by (N := N__law_fair_sheet) (sc := (defScope s__law_fair_sheet)) (by decide +kernel)) (by decide) (fun _ _ _ _ _ => (g_one 3 S.nd)) (fun _ _ _ _ _ => p_nil) (fun _ _ _ _ _ => (d_op op_addA addD_ok (d_op op_addA addD_ok (d_sl (d_var 3) o_none (o_some d_int)) (d_tup (d_cons (d_op op_addA addD_ok d_int (d_fn G__law_take hr T.g__law_take T.F__law_take.kp T.b__law_take takes0 (d_cons (d_var 0) (d_cons d_int d_nil)))) d_nil))) (d_sl (d_var 3) (o_some d_int) o_none)))) d_nil)))
      (ss_cons (s_set 4 S.nd (d_op op_sub sub_ok (d_callB (CallR.or (cr_sum rfl) (cr_sumT rfl)) sum_ok (by rfl) T.z_sum (by decide +kernel) (d_cons (d_sl (d_ix (d_fn0 G__law_net hr T.g__law_net T.F__law_net.kp T.b__law_net) (d_var 1)) (o_some d_int) o_none) d_nil)) (d_callB (CallR.or (cr_sum rfl) (cr_sumT rfl)) sum_ok (by rfl) T.z_sum (by decide +kernel) (d_cons (d_lc [("own", 3)] rfl S.nd (i_seq (d_var 2)) (blkOk_by (N := N__law_fair_sheet) (sc := (defScope s__law_fair_sheet)) (by decide +kernel)) (by decide) (fun _ _ _ _ _ => (g_one 3 S.nd)) (fun _ _ _ _ _ => p_nil) (fun _ _ _ _ _ => (d_ix (d_var 3) d_int))) d_nil))))
      (ss_cons (s_set 5 S.nd (d_fn G__law_take hr T.g__law_take T.F__law_take.kp T.b__law_take tk (d_cons (d_var 0) (d_cons (d_op op_addA addD_ok (d_var 4) d_int) d_nil))))
      (ss_one (s_ret (d_tup (d_cons (d_var 1) (d_cons (d_op op_addA addD_ok d_int (d_fn G__law_take hr T.g__law_take T.F__law_take.kp T.b__law_take tk (d_cons (d_var 0) (d_cons d_int d_nil)))) (d_cons (d_tup (d_cons (d_var 5) (d_cons (d_op op_sub sub_ok (d_var 4) (d_var 5)) d_nil))) (d_cons (d_var 2) d_nil)))))))))))
theorem ok__law_fair (T : Txt K mg) {k : Nat}
    (G__law_fair_sheet : FnOk P w K mg base (L2.CX P w) (k) T.a__law_fair_sheet T.fd__law_fair_sheet ["urn"] (spD K mg 1 g__law_fair_sheet))
    (G__law_take : FnOk P w K mg base (L2.CX P w) (k) T.a__law_take T.fd__law_take ["urn", "low_so"] (spD K mg 2 g__law_take)) : FnOk P w K mg base (L2.CX P w) (k + 1) T.a__law_fair T.fd__law_fair ["urn"] (spD K mg 1 g__law_fair) :=
  have S := sc__law_fair
  fn_ok (k := k) T.F__law_fair S fun cdv A outer s H E hr tk hp =>
    (ss_cons (s_set 1 S.nd (d_fn G__law_take hr T.g__law_take T.F__law_take.kp T.b__law_take tk (d_cons (d_var 0) (d_cons d_int d_nil))))
      (ss_cons (s_if (t_cmp op_lt ord_ok (d_var 1) d_int (nomark _)) (ss_one (s_ret (d_tup (d_cons (d_ix (d_lst (d_cons d_str (d_cons d_str d_nil))) (d_var 1)) (d_cons (d_fn G__law_fair_sheet hr T.g__law_fair_sheet T.F__law_fair_sheet.kp T.b__law_fair_sheet tk (d_cons (d_var 0) d_nil)) d_nil))))) ss_nil)
      (ss_cons (s_if (t_cmp op_lt ord_ok (d_var 1) d_int (nomark _)) (ss_one (s_ret (d_tup (d_cons (d_ix (d_lst (d_cons d_str (d_cons d_str d_nil))) (d_op op_sub sub_ok (d_var 1) d_int)) (d_cons (d_fn G__law_take hr T.g__law_take T.F__law_take.kp T.b__law_take tk (d_cons (d_var 0) (d_cons d_int d_nil))) (d_cons (d_fn G__law_take hr T.g__law_take T.F__law_take.kp T.b__law_take tk (d_cons (d_var 0) (d_cons d_int d_nil))) d_nil)))))) ss_nil)
      (ss_cons (s_set 2 S.nd (d_fn G__law_take hr T.g__law_take T.F__law_take.kp T.b__law_take tk (d_cons (d_var 0) (d_cons d_int d_nil))))
      (ss_cons (s_par 3 4 rfl S.nd (d_lc [("lap", 5)] rfl S.nd (i_rng1 (by rfl) T.z_range (d_cons (d_var 2) d_nil)) (blkOk_by (N := N__law_fair) (sc := (defScope s__law_fair)) (by decide +kernel)) (by decide) (fun _ _ _ _ _ => (g_one 5 S.nd)) (fun _ _ _ _ _ => p_nil) (fun _ _ _ _ _ => (d_fn G__law_take hr T.g__law_take T.F__law_take.kp T.b__law_take takes0 (d_cons (d_var 0) (d_cons d_int d_nil))))) (d_lc [("lap", 5)] rfl S.nd (i_rng1 (by rfl) T.z_range (d_cons (d_var 2) d_nil)) (blkOk_by (N := N__law_fair) (sc := (defScope s__law_fair)) (by decide +kernel)) (by decide) (fun _ _ _ _ _ => (g_one 5 S.nd)) (fun _ _ _ _ _ => p_nil) (fun _ _ _ _ _ => (d_fn G__law_take hr T.g__law_take T.F__law_take.kp T.b__law_take takes0 (d_cons (d_var 0) (d_cons d_int d_nil))))) (by rfl))
      (ss_one (s_ret (d_tup (d_cons d_str (d_cons (d_fn G__law_take hr T.g__law_take T.F__law_take.kp T.b__law_take tk (d_cons (d_var 0) (d_cons d_int d_nil))) (d_cons (d_tup (d_cons d_str (d_cons (d_fn G__law_take hr T.g__law_take T.F__law_take.kp T.b__law_take tk (d_cons (d_var 0) (d_cons d_int d_nil))) d_nil))) (d_cons (d_callTy call_tuple_of tup_ok (by rfl) T.z_tuple PyProof.Rows.boot_tuple (d_cons (d_var 3) d_nil)) (d_cons (d_callTy call_tuple_of tup_ok (by rfl) T.z_tuple PyProof.Rows.boot_tuple (d_cons (d_var 4) d_nil)) d_nil)))))))))))))
theorem ok__law_bent (T : Txt K mg) {k : Nat}
    (G__law_of : FnOk P w K mg base (L2.CX P w) (k) T.a__law_of T.fd__law_of ["urn", "some_so"] (spD K mg 2 g__law_of))
    (G__law_take : FnOk P w K mg base (L2.CX P w) (k) T.a__law_take T.fd__law_take ["urn", "low_so"] (spD K mg 2 g__law_take)) {self : List D → Sto → R D} (SELF : FnOk P w K mg base (L2.CX P w) k T.a__law_bent T.fd__law_bent ["urn", "matter"] (spD K mg 2 self)) : FnOk P w K mg base (L2.CX P w) (k + 1) T.a__law_bent T.fd__law_bent ["urn", "matter"] (spD K mg 2 (runM 3 (b__law_bent self))) :=
  have S := sc__law_bent
  fn_ok (k := k) T.F__law_bent S fun cdv A outer s H E hr tk hp =>
    (ss_cons (s_if (PW.pt (w_and (t_tru (d_callB call_isi is_ok (by rfl) T.z_isinstance PyProof.Rows.boot_isinstance (d_cons (d_var 1) (d_cons (d_ty .tuple (by rfl) T.z_tuple PyProof.Rows.boot_tuple) d_nil)))) (w_and (t_cmp (op_neD hr.units) ne_ok (d_var 1) (d_tup d_nil) (nomark _)) (w_and1 (t_cmp op_gt ord_ok (d_fn G__law_take hr T.g__law_take T.F__law_take.kp T.b__law_take tk (d_cons (d_var 0) (d_cons d_int d_nil))) d_int (nomark _)))))) (ss_cons (s_set 2 S.nd (d_fn G__law_take hr T.g__law_take T.F__law_take.kp T.b__law_take tk (d_cons (d_var 0) (d_cons (d_callB call_len_seq len_ok (by rfl) T.z_len PySem.boot_len (d_cons (d_var 1) d_nil)) d_nil))))
      (ss_one (s_ret (d_op op_addA addD_ok (d_op op_addA addD_ok (d_sl (d_var 1) o_none (o_some (d_var 2))) (d_tup (d_cons (d_fn SELF hr T.g__law_bent T.F__law_bent.kp T.b__law_bent tk (d_cons (d_var 0) (d_cons (d_ix (d_var 1) (d_var 2)) d_nil))) d_nil))) (d_sl (d_var 1) (o_some (d_op op_addA addD_ok (d_var 2) d_int)) o_none))))) ss_nil)
      (ss_cons (s_if (t_tru (d_callB call_isi is_ok (by rfl) T.z_isinstance PyProof.Rows.boot_isinstance (d_cons (d_var 1) (d_cons (d_ty .tuple (by rfl) T.z_tuple PyProof.Rows.boot_tuple) d_nil)))) (ss_one (s_ret (d_fn G__law_of hr T.g__law_of T.F__law_of.kp T.b__law_of tk (d_cons (d_var 0) (d_cons (d_lst (d_cons (d_callTy call_list_of list_ok (by rfl) T.z_list PyProof.Rows.boot_list (d_cons (d_var 1) d_nil)) (d_cons (d_op op_addA addD_ok (d_var 1) (d_tup (d_cons d_int d_nil))) (d_cons (d_sl (d_var 1) o_none (o_some (d_neg d_int))) (d_cons (d_revX (d_var 1)) (d_cons d_non d_nil)))))) d_nil))))) ss_nil)
      (ss_cons (s_if (t_tru (d_callB call_isi is_ok (by rfl) T.z_isinstance PyProof.Rows.boot_isinstance (d_cons (d_var 1) (d_cons (d_ty .int (by rfl) T.z_int PyProof.Rows.boot_int) d_nil)))) (ss_one (s_ret (d_fn G__law_of hr T.g__law_of T.F__law_of.kp T.b__law_of tk (d_cons (d_var 0) (d_cons (d_lst (d_cons (d_op op_addA addD_ok (d_var 1) d_int) (d_cons (d_op op_sub sub_ok (d_var 1) d_int) (d_cons (d_neg d_int) (d_cons d_bl (d_cons d_int (d_cons d_int (d_cons d_non (d_cons (d_callTy call_str_int strN_ok (by rfl) T.z_str PyProof.Rows.boot_str (d_cons (d_var 1) d_nil)) d_nil))))))))) d_nil))))) ss_nil)
      (ss_one (s_ret (d_fn G__law_of hr T.g__law_of T.F__law_of.kp T.b__law_of tk (d_cons (d_var 0) (d_cons (d_lst (d_cons d_str (d_cons d_str (d_cons d_str (d_cons d_str (d_cons d_str (d_cons d_str (d_cons d_str (d_cons d_non d_nil))))))))) d_nil))))))))
theorem ok_is_sheet (T : Txt K mg) {k : Nat}
    (G__are_locks : FnOk P w K mg base (L2.CX P w) (k) T.a__are_locks T.fd__are_locks ["thing"] (spD K mg 1 g__are_locks))
    (G_first_sheet : FnOk P w K mg base (L2.CX P w) (k) T.a_first_sheet T.fd_first_sheet ["net", "channel"] (spD K mg 2 g_first_sheet))
    (G_is_below : FnOk P w K mg base (L2.CX P w) (k) T.a_is_below T.fd_is_below ["thing", "many"] (spD K mg 2 g_is_below))
    (G_is_from : FnOk P w K mg base (L2.CX P w) (k) T.a_is_from T.fd_is_from ["thing", "least"] (spD K mg 2 g_is_from))
    (G_is_tuple_of : FnOk P w K mg base (L2.CX P w) (k) T.a_is_tuple_of T.fd_is_tuple_of ["thing", "many"] (spD K mg 2 g_is_tuple_of))
    (G_total : FnOk P w K mg base (L2.CX P w) (k) T.a_total T.fd_total ["sheet"] (spD K mg 1 g_total)) : FnOk P w K mg base (L2.CX P w) (k + 1) T.a_is_sheet T.fd_is_sheet ["net", "thing"] (spD K mg 2 g_is_sheet) :=
  have S := sc_is_sheet
  fn_ok (k := k) T.F_is_sheet S fun cdv A outer s H E hr tk hp =>
    (ss_cons (s_if (t_not (t_tru (d_fn G_is_tuple_of hr T.g_is_tuple_of T.F_is_tuple_of.kp T.b_is_tuple_of tk (d_cons (d_var 1) (d_cons d_int d_nil))))) (ss_one (s_ret d_bl)) ss_nil)
      (ss_cons (s_unp (d_var 1) (g_many rfl (gs_cons 2 S.nd (gs_cons 3 S.nd (gs_cons 4 S.nd (gs_cons 5 S.nd gs_nil))))))
      (ss_cons (s_if (PW.pt (w_or (t_not (t_tru (d_fn G_is_below hr T.g_is_below T.F_is_below.kp T.b_is_below tk (d_cons (d_var 2) (d_cons (d_callB call_len_seq len_ok (by rfl) T.z_len PySem.boot_len (d_cons (d_var 0) d_nil)) d_nil))))) (w_or1 (t_not (t_tru (d_fn G_is_from hr T.g_is_from T.F_is_from.kp T.b_is_from tk (d_cons (d_var 3) (d_cons d_int d_nil)))))))) (ss_one (s_ret d_bl)) ss_nil)
      (ss_cons (s_if (PW.pt (w_or (t_not (t_tru (d_fn G_is_tuple_of hr T.g_is_tuple_of T.F_is_tuple_of.kp T.b_is_tuple_of tk (d_cons (d_var 4) (d_cons d_int d_nil))))) (w_or (t_not (t_tru (d_fn G_is_from hr T.g_is_from T.F_is_from.kp T.b_is_from tk (d_cons (d_ix (d_var 4) d_int) (d_cons d_int d_nil))))) (w_or (t_not (t_tru (d_fn G_is_from hr T.g_is_from T.F_is_from.kp T.b_is_from tk (d_cons (d_ix (d_var 4) d_int) (d_cons d_int d_nil))))) (w_or1 (t_not (t_tru (d_fn G__are_locks hr T.g__are_locks T.F__are_locks.kp T.b__are_locks tk (d_cons (d_var 5) d_nil))))))))) (ss_one (s_ret d_bl)) ss_nil)
      (ss_cons (s_if (t_cmp (op_eqD hr.units) eq_ok (d_var 3) d_int (nomark _)) (ss_one (s_ret (d_cmp (op_eqD hr.units) eq_ok (d_var 1) (d_fn G_first_sheet hr T.g_first_sheet T.F_first_sheet.kp T.b_first_sheet tk (d_cons (d_var 0) (d_cons (d_var 2) d_nil))) (nomark _)))) ss_nil)
      (ss_one (s_ret (d_cmp (op_eqD hr.units) eq_ok (d_fn G_total hr T.g_total T.F_total.kp T.b_total tk (d_cons (d_var 1) d_nil)) (d_op op_addA addD_ok (d_ix (d_ix (d_var 0) (d_var 2)) d_int) (d_ix (d_ix (d_var 0) (d_var 2)) d_int)) (nomark _)))))))))
theorem ok_is_letter (T : Txt K mg) {k : Nat}
    (G_are_from : FnOk P w K mg base (L2.CX P w) (k) T.a_are_from T.fd_are_from ["thing", "least"] (spD K mg 2 g_are_from))
    (G_is_below : FnOk P w K mg base (L2.CX P w) (k) T.a_is_below T.fd_is_below ["thing", "many"] (spD K mg 2 g_is_below))
    (G_is_from : FnOk P w K mg base (L2.CX P w) (k) T.a_is_from T.fd_is_from ["thing", "least"] (spD K mg 2 g_is_from))
    (G_is_image : FnOk P w K mg base (L2.CX P w) (k) T.a_is_image T.fd_is_image ["thing"] (spD K mg 1 g_is_image))
    (G_is_sheet : FnOk P w K mg base (L2.CX P w) (k) T.a_is_sheet T.fd_is_sheet ["net", "thing"] (spD K mg 2 g_is_sheet))
    (G_is_tuple_of : FnOk P w K mg base (L2.CX P w) (k) T.a_is_tuple_of T.fd_is_tuple_of ["thing", "many"] (spD K mg 2 g_is_tuple_of)) : FnOk P w K mg base (L2.CX P w) (k + 1) T.a_is_letter T.fd_is_letter ["net", "thing"] (spD K mg 2 g_is_letter) :=
  have S := sc_is_letter
  fn_ok (k := k) T.F_is_letter S fun cdv A outer s H E hr tk hp =>
    (ss_cons (s_if (t_tru (d_fn G_is_tuple_of hr T.g_is_tuple_of T.F_is_tuple_of.kp T.b_is_tuple_of tk (d_cons (d_var 1) (d_cons d_int d_nil)))) (ss_one (s_ret (d_and (d_cmp (op_inA (u65 hr)) in_ok (d_ix (d_var 1) d_int) (d_tupM T.tc__OF_SHEETS T.tg__OF_SHEETS) (by rfl)) (d_one (d_fn G_is_sheet hr T.g_is_sheet T.F_is_sheet.kp T.b_is_sheet tk (d_cons (d_var 0) (d_cons (d_ix (d_var 1) d_int) d_nil))))))) ss_nil)
      (ss_cons (s_if (t_tru (d_fn G_is_tuple_of hr T.g_is_tuple_of T.F_is_tuple_of.kp T.b_is_tuple_of tk (d_cons (d_var 1) (d_cons d_int d_nil)))) (ss_one (s_ret (d_and (d_cmp (op_inA (u65 hr)) in_ok (d_ix (d_var 1) d_int) (d_tupM T.tc__OF_NUMBERS T.tg__OF_NUMBERS) (by rfl)) (d_and (d_fn G_is_below hr T.g_is_below T.F_is_below.kp T.b_is_below tk (d_cons (d_ix (d_var 1) d_int) (d_cons (d_callB call_len_seq len_ok (by rfl) T.z_len PySem.boot_len (d_cons (d_var 0) d_nil)) d_nil))) (d_one (d_fn G_is_from hr T.g_is_from T.F_is_from.kp T.b_is_from tk (d_cons (d_ix (d_var 1) d_int) (d_cons d_int d_nil)))))))) ss_nil)
      (ss_cons (s_if (PW.pt (w_or (t_not (t_tru (d_fn G_is_tuple_of hr T.g_is_tuple_of T.F_is_tuple_of.kp T.b_is_tuple_of tk (d_cons (d_var 1) (d_cons d_int d_nil))))) (w_or (t_cmp (op_neD hr.units) ne_ok (d_ix (d_var 1) d_int) d_str (nomark _)) (w_or (t_not (t_tru (d_fn G_is_below hr T.g_is_below T.F_is_below.kp T.b_is_below tk (d_cons (d_ix (d_var 1) d_int) (d_cons (d_callB call_len_seq len_ok (by rfl) T.z_len PySem.boot_len (d_cons (d_var 0) d_nil)) d_nil))))) (w_or1 (t_not (t_tru (d_fn G_is_image hr T.g_is_image T.F_is_image.kp T.b_is_image tk (d_cons (d_ix (d_var 1) d_int) d_nil))))))))) (ss_one (s_ret d_bl)) ss_nil)
      (ss_cons (s_unp (d_sl (d_var 1) (o_some d_int) o_none) (g_many rfl (gs_cons 2 S.nd (gs_cons 3 S.nd gs_nil))))
      (ss_cons (s_if (PW.pt (w_or (t_not (t_tru (d_fn G_are_from hr T.g_are_from T.F_are_from.kp T.b_are_from tk (d_cons (d_var 2) (d_cons d_int d_nil))))) (w_or (t_not (t_tru (d_fn G_are_from hr T.g_are_from T.F_are_from.kp T.b_are_from tk (d_cons (d_var 3) (d_cons d_int d_nil))))) (w_or1 (t_cmp (op_neD hr.units) ne_ok (d_callB call_len_seq len_ok (by rfl) T.z_len PySem.boot_len (d_cons (d_var 2) d_nil)) (d_callB call_len_seq len_ok (by rfl) T.z_len PySem.boot_len (d_cons (d_var 3) d_nil)) (nomark _)))))) (ss_one (s_ret d_bl)) ss_nil)
      (ss_one (s_ret (d_callB (cr_all rfl) bl_ok (by rfl) T.z_all (by decide +kernel) (d_cons (d_lc [("channel", 4)] rfl S.nd (i_seq (d_var 2)) (blkOk_by (N := N_is_letter) (sc := (defScope s_is_letter)) (by decide +kernel)) (by decide) (fun _ _ _ _ _ => (g_one 4 S.nd)) (fun _ _ _ _ _ => p_nil) (fun _ _ _ _ _ => (d_cmp op_lt ord_ok (d_var 4) (d_callB call_len_seq len_ok (by rfl) T.z_len PySem.boot_len (d_cons (d_var 0) d_nil)) (nomark _)))) d_nil)))))))))
theorem ok__law_by_hand_right (T : Txt K mg) {k : Nat}
    (G__law_lent : FnOk P w K mg base (L2.CX P w) (k) T.a__law_lent T.fd__law_lent [] (spD K mg 0 g__law_lent))
    (G__law_lists : FnOk P w K mg base (L2.CX P w) (k) T.a__law_lists T.fd__law_lists ["matter"] (spD K mg 1 g__law_lists))
    (G__law_net : FnOk P w K mg base (L2.CX P w) (k) T.a__law_net T.fd__law_net [] (spD K mg 0 g__law_net))
    (G__law_same : FnOk P w K mg base (L2.CX P w) (k) T.a__law_same T.fd__law_same ["got", "goal"] (spD K mg 2 g__law_same))
    (G_channel_of : FnOk P w K mg base (L2.CX P w) (k) T.a_channel_of T.fd_channel_of ["letter"] (spD K mg 1 g_channel_of))
    (G_is_letter : FnOk P w K mg base (L2.CX P w) (k) T.a_is_letter T.fd_is_letter ["net", "thing"] (spD K mg 2 g_is_letter)) : FnOk P w K mg base (L2.CX P w) (k + 1) T.a__law_by_hand_right T.fd__law_by_hand_right [] (spD K mg 0 g__law_by_hand_right) :=
  have S := sc__law_by_hand_right
  fn_ok (k := k) T.F__law_by_hand_right S fun cdv A outer s H E hr tk hp =>
    (ss_cons (s_unp (d_tup (d_cons (d_fn0 G__law_net hr T.g__law_net T.F__law_net.kp T.b__law_net) (d_cons (d_fn0 G__law_lent hr T.g__law_lent T.F__law_lent.kp T.b__law_lent) (d_cons (d_tup (d_cons d_str (d_cons d_int d_nil))) d_nil)))) (g_many rfl (gs_cons 0 S.nd (gs_cons 1 S.nd (gs_cons 2 S.nd gs_nil)))))
      (ss_cons (s_set 3 S.nd (d_lst (d_cons (d_tup (d_cons d_str (d_cons (d_var 1) d_nil))) (d_cons (d_tup (d_cons d_str (d_cons (d_tup (d_cons d_int (d_cons d_int (d_cons (d_tup (d_cons d_int (d_cons d_int d_nil))) (d_cons (d_tup d_nil) d_nil))))) d_nil))) (d_cons (d_tup (d_cons d_str (d_cons d_int (d_cons d_int d_nil)))) (d_cons (d_tup (d_cons d_str (d_cons d_int (d_cons (d_op op_pow pow_ok d_int d_int) d_nil)))) (d_cons (d_tup (d_cons d_str (d_cons d_int (d_cons (d_var 2) (d_cons (d_tup d_nil) (d_cons (d_tup d_nil) d_nil)))))) d_nil)))))))
      (ss_cons (s_set 3 S.nd (d_op op_addA addD_ok (d_var 3) (d_lst (d_cons (d_tup (d_cons d_str (d_cons d_int (d_cons (d_var 2) (d_cons (d_tup (d_cons d_int (d_cons d_int (d_cons d_int d_nil)))) (d_cons (d_tup (d_cons d_int (d_cons d_int (d_cons d_int d_nil)))) d_nil)))))) d_nil))))
      (ss_cons (s_set 4 S.nd (d_lst (d_cons (d_tup (d_cons d_str (d_cons (d_tup (d_cons d_int (d_cons d_int (d_cons (d_tup (d_cons d_int (d_cons d_int d_nil))) (d_cons (d_tup d_nil) d_nil))))) d_nil))) (d_cons (d_tup (d_cons d_str (d_cons d_int (d_cons d_int d_nil)))) (d_cons (d_tup (d_cons d_str (d_cons d_int (d_cons (d_neg d_int) d_nil)))) (d_cons (d_tup (d_cons d_str (d_cons d_bl (d_cons d_int d_nil)))) (d_cons (d_tup (d_cons d_str (d_cons d_int (d_cons d_int (d_cons d_int d_nil))))) d_nil)))))))
      (ss_cons (s_set 4 S.nd (d_op op_addA addD_ok (d_var 4) (d_lst (d_cons (d_tup (d_cons d_str (d_cons d_int (d_cons (d_var 2) d_nil)))) (d_cons (d_tup (d_cons d_str (d_cons d_int d_nil))) d_nil)))))
      (ss_cons (s_set 4 S.nd (d_op op_addA addD_ok (d_var 4) (d_lst (d_cons (d_tup (d_cons d_str (d_cons d_int (d_cons (d_var 2) (d_cons (d_tup (d_cons d_int d_nil)) (d_cons (d_tup d_nil) d_nil)))))) (d_cons (d_tup (d_cons d_str (d_cons d_int (d_cons d_int (d_cons (d_tup d_nil) (d_cons (d_tup d_nil) d_nil)))))) (d_cons (d_tup (d_cons d_str (d_cons d_int (d_cons (d_var 2) (d_cons (d_lst (d_cons d_int d_nil)) (d_cons (d_tup (d_cons d_int d_nil)) d_nil)))))) (d_cons (d_tup (d_cons d_str (d_cons d_int (d_cons (d_var 2) (d_cons (d_tup (d_cons d_int d_nil)) (d_cons (d_tup (d_cons d_int d_nil)) d_nil)))))) d_nil)))))))
      (ss_cons (s_set 4 S.nd (d_op op_addA addD_ok (d_var 4) (d_lst (d_cons (d_tup (d_cons d_str (d_cons d_int (d_cons (d_var 2) (d_cons (d_tup (d_cons d_int d_nil)) (d_cons (d_tup (d_cons (d_neg d_int) d_nil)) d_nil)))))) d_nil))))
      (ss_cons (s_set 4 S.nd (d_op op_addA addD_ok (d_var 4) (d_lst (d_cons (d_lst (d_cons d_str (d_cons d_int (d_cons d_int d_nil)))) (d_cons (d_tup (d_cons d_str (d_cons (d_callTy call_list_of list_ok (by rfl) T.z_list PyProof.Rows.boot_list (d_cons (d_var 1) d_nil)) d_nil))) (d_cons (d_tup (d_cons d_str (d_cons (d_var 1) (d_cons (d_var 1) d_nil)))) (d_cons (d_tup (d_cons d_str d_nil)) (d_cons (d_tup d_nil) (d_cons d_non (d_cons d_str (d_cons (d_tup (d_cons d_str (d_cons (d_tup (d_cons d_int (d_cons d_int (d_cons (d_tup (d_cons d_int (d_cons d_int d_nil))) (d_cons (d_tup d_nil) d_nil))))) d_nil))) d_nil)))))))))))
      (ss_cons (s_set 4 S.nd (d_op op_addA addD_ok (d_var 4) (d_lst (d_cons (d_tup (d_cons d_str (d_cons d_int (d_cons (d_var 2) d_nil)))) d_nil))))
      (ss_cons (s_set 5 S.nd (d_lst (d_cons (d_lc [("own", 6)] rfl S.nd (i_seq (d_var 3)) (blkOk_by (N := N__law_by_hand_right) (sc := (defScope s__law_by_hand_right)) (by decide +kernel)) (by decide) (fun _ _ _ _ _ => (g_one 6 S.nd)) (fun _ _ _ _ _ => p_nil) (fun _ _ _ _ _ => (d_fn G_is_letter hr T.g_is_letter T.F_is_letter.kp T.b_is_letter takes0 (d_cons (d_var 0) (d_cons (d_var 6) d_nil))))) (d_cons (d_lc [("own", 6)] rfl S.nd (i_seq (d_var 4)) (blkOk_by (N := N__law_by_hand_right) (sc := (defScope s__law_by_hand_right)) (by decide +kernel)) (by decide) (fun _ _ _ _ _ => (g_one 6 S.nd)) (fun _ _ _ _ _ => p_nil) (fun _ _ _ _ _ => (d_fn G_is_letter hr T.g_is_letter T.F_is_letter.kp T.b_is_letter takes0 (d_cons (d_var 0) (d_cons (d_var 6) d_nil))))) d_nil))))
      (ss_cons (s_set 5 S.nd (d_op op_addA addD_ok (d_var 5) (d_lst (d_cons (d_fnK G_is_letter hr T.g_is_letter T.F_is_letter.kp T.kb_is_letter_10 rfl tk (d_pk_cons (d_ix (d_var 3) d_int) (d_pk_cons (d_fn G__law_lists hr T.g__law_lists T.F__law_lists.kp T.b__law_lists tk (d_cons (d_var 0) d_nil)) d_pk_nil))) d_nil))))
      (ss_cons (s_set 5 S.nd (d_op op_addA addD_ok (d_var 5) (d_lst (d_cons (d_lc [("own", 6)] rfl S.nd (i_seq (d_var 3)) (blkOk_by (N := N__law_by_hand_right) (sc := (defScope s__law_by_hand_right)) (by decide +kernel)) (by decide) (fun _ _ _ _ _ => (g_one 6 S.nd)) (fun _ _ _ _ _ => p_nil) (fun _ _ _ _ _ => (d_fn G_channel_of hr T.g_channel_of T.F_channel_of.kp T.b_channel_of takes0 (d_cons (d_var 6) d_nil)))) (d_cons (d_fnK G_channel_of hr T.g_channel_of T.F_channel_of.kp T.kb_channel_of_0 rfl tk (d_pk_cons (d_lst (d_cons d_str (d_cons (d_lst (d_cons d_int (d_cons d_int (d_cons (d_lst (d_cons d_int (d_cons d_int d_nil))) (d_cons (d_lst d_nil) d_nil))))) d_nil))) d_pk_nil)) d_nil)))))
      (ss_cons (s_set 5 S.nd (d_op op_addA addD_ok (d_var 5) (d_lst (d_cons (d_fn G_channel_of hr T.g_channel_of T.F_channel_of.kp T.b_channel_of tk (d_cons (d_lst (d_cons d_str (d_cons d_int (d_cons (d_lst (d_cons d_str (d_cons d_int d_nil))) (d_cons (d_lst d_nil) (d_cons (d_lst d_nil) d_nil)))))) d_nil)) d_nil))))
      (ss_one (s_ret (d_fn G__law_same hr T.g__law_same T.F__law_same.kp T.b__law_same tk (d_cons (d_var 5) (d_cons (d_lst (d_cons (d_op op_mulA mulD_ok (d_lst (d_cons d_bl d_nil)) d_int) (d_cons (d_op op_mulA mulD_ok (d_lst (d_cons d_bl d_nil)) d_int) (d_cons d_bl (d_cons (d_lst (d_cons d_int (d_cons d_int (d_cons d_int (d_cons d_int (d_cons d_int (d_cons d_int d_nil))))))) (d_cons d_int (d_cons d_int d_nil))))))) d_nil))))))))))))))))))
theorem ok_law (T : Txt K mg) {k : Nat}
    (G__law_bent : FnOk P w K mg base (L2.CX P w) (k) T.a__law_bent T.fd__law_bent ["urn", "matter"] (spD K mg 2 g__law_bent))
    (G__law_box : FnOk P w K mg base (L2.CX P w) (k) T.a__law_box T.fd__law_box ["script", "k"] (spD K mg 2 g__law_box))
    (G__law_by_hand_right : FnOk P w K mg base (L2.CX P w) (k) T.a__law_by_hand_right T.fd__law_by_hand_right [] (spD K mg 0 g__law_by_hand_right))
    (G__law_cells : FnOk P w K mg base (L2.CX P w) (k) T.a__law_cells T.fd__law_cells ["script", "top"] (spD K mg 2 g__law_cells))
    (G__law_fair : FnOk P w K mg base (L2.CX P w) (k) T.a__law_fair T.fd__law_fair ["urn"] (spD K mg 1 g__law_fair))
    (G__law_is_letter : FnOk P w K mg base (L2.CX P w) (k) T.a__law_is_letter T.fd__law_is_letter ["net_so", "own"] (spD K mg 2 g__law_is_letter))
    (G__law_lists : FnOk P w K mg base (L2.CX P w) (k) T.a__law_lists T.fd__law_lists ["matter"] (spD K mg 1 g__law_lists))
    (G__law_net : FnOk P w K mg base (L2.CX P w) (k) T.a__law_net T.fd__law_net [] (spD K mg 0 g__law_net))
    (G__law_same : FnOk P w K mg base (L2.CX P w) (k) T.a__law_same T.fd__law_same ["got", "goal"] (spD K mg 2 g__law_same))
    (G_channel_of : FnOk P w K mg base (L2.CX P w) (k) T.a_channel_of T.fd_channel_of ["letter"] (spD K mg 1 g_channel_of))
    (G_is_letter : FnOk P w K mg base (L2.CX P w) (k) T.a_is_letter T.fd_is_letter ["net", "thing"] (spD K mg 2 g_is_letter)) : FnOk P w K mg base (L2.CX P w) (k + 1) T.a_law T.fd_law ["script"] (spD K mg 1 g_law) :=
  have S := sc_law
  fn_ok (k := k) T.F_law S fun cdv A outer s H E hr tk hp =>
    (ss_cons (s_if (t_not (t_tru (d_fn0 G__law_by_hand_right hr T.g__law_by_hand_right T.F__law_by_hand_right.kp T.b__law_by_hand_right))) (ss_one (s_ret d_bl)) ss_nil)
      (ss_cons (s_set 1 S.nd (d_fn G__law_box hr T.g__law_box T.F__law_box.kp T.b__law_box tk (d_cons (d_fn G__law_cells hr T.g__law_cells T.F__law_cells.kp T.b__law_cells tk (d_cons (d_var 0) (d_cons d_int d_nil))) (d_cons d_int d_nil))))
      (ss_cons (s_for hp rfl (i_rng1 (by rfl) T.z_range (d_cons d_int d_nil)) (g_one 2 S.nd) (ss_cons (s_set 3 S.nd (d_fn G__law_fair hr T.g__law_fair T.F__law_fair.kp T.b__law_fair tk (d_cons (d_var 1) d_nil)))
      (ss_cons (s_set 4 S.nd (d_fn G__law_bent hr T.g__law_bent T.F__law_bent.kp T.b__law_bent tk (d_cons (d_var 1) (d_cons (d_var 3) d_nil))))
      (ss_cons (s_set 5 S.nd (d_lst (d_cons d_bl (d_cons (d_if (t_cmp (op_inA (u65 hr)) in_ok (d_ix (d_var 3) d_int) (d_tup (d_cons d_str (d_cons d_str d_nil))) (by rfl)) (d_ix (d_ix (d_var 3) d_int) d_int) (d_ix (d_var 3) d_int)) (d_cons (d_fn G__law_is_letter hr T.g__law_is_letter T.F__law_is_letter.kp T.b__law_is_letter tk (d_cons (d_fn0 G__law_net hr T.g__law_net T.F__law_net.kp T.b__law_net) (d_cons (d_var 4) d_nil))) d_nil)))))
      (ss_one (s_if (t_not (t_tru (d_fn G__law_same hr T.g__law_same T.F__law_same.kp T.b__law_same tk (d_cons (d_lst (d_cons (d_fn G_is_letter hr T.g_is_letter T.F_is_letter.kp T.b_is_letter tk (d_cons (d_fn0 G__law_net hr T.g__law_net T.F__law_net.kp T.b__law_net) (d_cons (d_var 3) d_nil))) (d_cons (d_fn G_channel_of hr T.g_channel_of T.F_channel_of.kp T.b_channel_of tk (d_cons (d_var 3) d_nil)) (d_cons (d_fn G_is_letter hr T.g_is_letter T.F_is_letter.kp T.b_is_letter tk (d_cons (d_fn G__law_lists hr T.g__law_lists T.F__law_lists.kp T.b__law_lists tk (d_cons (d_fn0 G__law_net hr T.g__law_net T.F__law_net.kp T.b__law_net) d_nil)) (d_cons (d_var 4) d_nil))) d_nil)))) (d_cons (d_var 5) d_nil))))) (ss_one (s_ret d_bl)) ss_nil))))))
      (ss_one (s_ret d_bl)))))
end
end K11
namespace K11
open PySem PySem.Spec L2 Ml
abbrev tm (d l w : Int) : D := .tup [.int d, .int l, .int w]
theorem at0 {x : D} {xs : List D} : atI (x :: xs) 0 = some x := by simp [atI, ixN]
theorem at1 {x y : D} {xs : List D} : atI (x :: y :: xs) 1 = some y := by
  have z : (1 : Int) < (xs.length : Int) + 1 + 1 := by omega
  simp [atI, ixN, z]
theorem at2 {x y z : D} {xs : List D} : atI (x :: y :: z :: xs) 2 = some z := by
  have z : (2 : Int) < (xs.length : Int) + 1 + 1 + 1 := by omega
  simp [atI, ixN, z]
theorem at3 {x y z u : D} {xs : List D} : atI (x :: y :: z :: u :: xs) 3 = some u := by
  have z : (3 : Int) < (xs.length : Int) + 1 + 1 + 1 + 1 := by omega
  simp [atI, ixN, z]
abbrev lkD (p a s e : Int) : D := .tup [.int p, .int a, .tup [.str (PySem.Str.ofString "image"), .int s], .int e]
structure Tx (h : Sto) (t : D) (d l : Int) : Prop where
  i0 : ixD t (.int 0) h = .ok (.int d) h
  i1 : ixD t (.int 1) h = .ok (.int l) h
structure Lx (h : Sto) (k : D) (a s e : Int) : Prop where
  k1 : ixD k (.int 1) h = .ok (.int a) h
  k2 : ∃ im, ixD k (.int 2) h = .ok im h ∧ ixD im (.int 1) h = .ok (.int s) h
  k3 : ixD k (.int 3) h = .ok (.int e) h
theorem tx_tm {d l w : Int} {h : Sto} : Tx h (tm d l w) d l := ⟨by simp [ixD, at0], by simp [ixD, at1]⟩
theorem lx_lk {p a s e : Int} {h : Sto} : Lx h (lkD p a s e) a s e := ⟨by simp [ixD, at1], ⟨_, by simp [ixD, at2]; rfl, by simp [ixD, at1]⟩, by simp [ixD, at3]⟩
def rngL (n : Nat) : List D := (List.range n).map fun (i : Nat) => D.int i
theorem rngL_len {n : Nat} : (rngL n).length = n := by simp [rngL]
theorem rng_item {n : Nat} {h : Sto} {i : Nat} : (Wk.rng 0 n).item h i = some (rngL n)[i]? := by
  unfold Wk.item rngL
  by_cases c : i < n
  · simp [c]
  · simp [c]
theorem rng_get {n i : Nat} {d : D} (e : (rngL n)[i]? = some d) : d = .int i ∧ i < n := by
  unfold rngL at e
  by_cases c : i < n
  · simp [c] at e; exact ⟨e.symm, c⟩
  · simp [c] at e
end K11
namespace K11
open PySem PySem.Spec L2 Ml
theorem li_int {n : Nat} {i : Int} {h : Sto} : g__law_lists' (n + 1) [.int i] h = .ok (.int i) h := by kernel_rfl
theorem li_str {n : Nat} {s : Str} {h : Sto} : g__law_lists' (n + 1) [.str s] h = .ok (.str s) h := by kernel_rfl
theorem set_end {h l : Sto} {c c' : Cl} : (h ++ c :: l).set h.length c' = h ++ c' :: l := by simp
theorem lst_at_end {h l : Sto} {xs : List D} : lstAt (h ++ .lst xs :: l) h.length = some xs := by simp [lstAt]
theorem li_tm {n : Nat} {d l w : Int} {h : Sto} : g__law_lists' (n + 2) [tm d l w] h = .ok (.ref h.length) (h ++ [.lst [.int d, .int l, .int w]]) := by
  show runM 2 (b__law_lists (g__law_lists' (n + 1))) [tm d l w] h = _
  simp [runM, b__law_lists, mRet, mIf, mTru, mIsT, mVar, mCons, mC, mNil, R.bind, R.into, tyTup, isTs, isT, truO, truD, mLc, mSeq, seqF, loopC, Wk.item, Wk.len, setTg, wipeD, mYes, mFn, li_int, set_end, lst_at_end]
theorem li_im {n : Nat} {s : Int} {t : Str} {h : Sto} : g__law_lists' (n + 2) [.tup [.str t, .int s]] h = .ok (.ref h.length) (h ++ [.lst [.str t, .int s]]) := by
  show runM 2 (b__law_lists (g__law_lists' (n + 1))) [.tup [.str t, .int s]] h = _
  simp [runM, b__law_lists, mRet, mIf, mTru, mIsT, mVar, mCons, mC, mNil, R.bind, R.into, tyTup, isTs, isT, truO, truD, mLc, mSeq, seqF, loopC, Wk.item, Wk.len, setTg, wipeD, mYes, mFn, li_int, li_str, set_end, lst_at_end]
theorem li_lk {n : Nat} {p a s e : Int} {h : Sto} : g__law_lists' (n + 3) [lkD p a s e] h = .ok (.ref h.length) (h ++ [.lst [.int p, .int a, .ref (h.length + 1), .int e], .lst [.str (PySem.Str.ofString "image"), .int s]]) := by
  show runM 2 (b__law_lists (g__law_lists' (n + 2))) [lkD p a s e] h = _
  have i2 : ∀ {i : Int} {h : Sto}, g__law_lists' (n + 2) [.int i] h = .ok (.int i) h := li_int
  simp [runM, b__law_lists, mRet, mIf, mTru, mIsT, mVar, mCons, mC, mNil, R.bind, R.into, tyTup, isTs, isT, truO, truD, mLc, mSeq, seqF, loopC, Wk.item, Wk.len, setTg, wipeD, mYes, mFn, i2, li_im, set_end, lst_at_end]
theorem li_non {n : Nat} {h : Sto} : g__law_lists' (n + 1) [.non] h = .ok .non h := by kernel_rfl
def words : List Str := [PySem.Str.ofString "image", PySem.Str.ofString "pass", PySem.Str.ofString "add", PySem.Str.ofString "pay", PySem.Str.ofString "drop", PySem.Str.ofString "offer", PySem.Str.ofString "agree", PySem.Str.ofString "turn", PySem.Str.ofString "secret", PySem.Str.ofString "cannot", PySem.Str.ofString "unfit"]
def plain : Nat → D → Bool
  | 0, _ => false
  | n + 1, d => match d with
    | .non => true
    | .bl _ => true
    | .int _ => true
    | .str s => decide (s ∈ words)
    | .tup xs => decide (xs.length ≤ 1000) && xs.all (plain n)
    | _ => false
section
variable {h : Sto} {Q : D → Sto → Prop}
theorem wp_isT2 {m : ME} {k : MA} {ρ : Sl} (x : wp (m ρ h) fun d h1 => wp (k ρ h1) fun ts h2 => ∃ us b, tyTup ts = some us ∧ (us.length ≤ 100 ∧ us ≠ []) ∧ isTs h2 d us = some b ∧ Q (.bl b) h2) : wp (mIsT m k ρ h) Q := by
  unfold mIsT
  rw [wp_bind]
  refine wp_mono x fun d h1 y => ?_
  rw [wp_bind]
  refine wp_mono y fun ts h2 ⟨us, b, e1, e2, e3, q⟩ => ?_
  rw [e1]
  dsimp only
  rw [if_pos e2]
  rw [e3]
  exact wp_ok.2 q
theorem same_int {n : Nat} {i : Int} : g__law_same' (n + 1) [.int i, .int i] h = .ok (.bl (decide (i = i))) h := by kernel_rfl
theorem same_bl {n : Nat} : ∀ i : Bool, g__law_same' (n + 1) [.bl i, .bl i] h = .ok (.bl true) h
  | true => by kernel_rfl
  | false => by kernel_rfl
theorem same_non {n : Nat} : g__law_same' (n + 1) [.non, .non] h = .ok (.bl true) h := by kernel_rfl
theorem same_str {n : Nat} {s : Str} (hs : s ∈ words) : g__law_same' (n + 1) [.str s, .str s] h = .ok (.bl true) h := by
  simp only [words, List.mem_cons, List.not_mem_nil, or_false] at hs
  rcases hs with rfl | rfl | rfl | rfl | rfl | rfl | rfl | rfl | rfl | rfl | rfl <;> kernel_rfl
theorem zip_items {xs : List D} {h' : Sto} {i : Nat} : (Wk.zipT xs xs).item h' i = some (xs.map fun x => D.tup [x, x])[i]? := by
  show (match xs[i]?, xs[i]? with | some x, some y => some (some (D.tup [x, y])) | _, _ => some none) = _
  rw [List.getElem?_map]
  cases xs[i]? <;> rfl
theorem all_true (n : Nat) : allBl (List.replicate n (D.bl true)) = some (List.replicate n true) := by
  induction n with
  | zero => rfl
  | succ n ih => rw [List.replicate_succ, List.replicate_succ]; unfold allBl; rw [ih]
theorem map_const {xs : List D} {d : D} : (xs.map fun _ => d) = List.replicate xs.length d := by
  induction xs with
  | nil => rfl
  | cons x xs ih => simp [List.replicate_succ, ih]
theorem same_wp : ∀ (n : Nat) (d : D) (k : Nat) (h : Sto) (Q : D → Sto → Prop), plain n d = true → n ≤ k → (∀ l, Q (.bl true) (h ++ l)) → wp (g__law_same' k [d, d] h) Q
  | 0, _, _, _, _, e, _, _ => nomatch e
  | n + 1, d, 0, _, _, _, hk, _ => absurd hk (by omega)
  | n + 1, d, k + 1, h, Q, e, hk, q => by
    have q0 : Q (.bl true) h := by simpa using q []
    cases d with
    | non => rw [same_non]; exact wp_ok.2 q0
    | bl b => rw [same_bl]; exact wp_ok.2 q0
    | int i => rw [same_int]; exact wp_ok.2 (by simpa using q0)
    | str s =>
      rw [same_str (of_decide_eq_true e)]; exact wp_ok.2 q0
    | ty _ => cases e
    | ref _ => cases e
    | tup xs =>
      have e' : (decide (xs.length ≤ 1000) && xs.all (plain n)) = true := e
      simp at e'
      obtain ⟨hl, ha⟩ := e'
      show wp (runM 4 (b__law_same (g__law_same' k)) [.tup xs, .tup xs] h) Q
      refine wp_run ?_
      unfold b__law_same
      rw [wo_seqS, wo_ifS, wp_tru]
      refine wp_isT2 ?_
      simp [tyTup, isTs, isT]
      have i1 : isF [.tup xs, .ty .list] h = .ok (.bl false) h := rfl
      have i2 : isF [.tup xs, .ty .tuple] h = .ok (.bl true) h := rfl
      simp [i1, i2]
      refine wp_lc ?_
      simp
      refine .mk (xs.map fun x => .tup [x, x]) (fun _ => some (.bl true)) (fun _ _ _ => zip_items) (by simp; omega) (by simp [Wk.len]) (fun d hd h' fx => ?_) fun l => ?_
      · obtain ⟨x, hx, rfl⟩ := List.mem_map.mp hd
        refine ⟨_, rfl, ?_⟩
        simp [wipeD]
        exact ⟨.refl, same_wp n x k h' _ (ha x hx) (by omega) fun l => ⟨.more, rfl⟩⟩
      · have em : (xs.map fun x => D.tup [x, x]).filterMap (fun _ => some (D.bl true)) = List.replicate xs.length (D.bl true) := by
          rw [List.filterMap_eq_map', List.map_map]
          exact map_const
        rw [em]
        refine wp_allF any_new (all_true _) ?_
        have e : (List.replicate xs.length true).all id = true := by simp
        rw [e]
        exact q _
theorem same_lists {i j k : Nat} {A : List D} (e1 : anyAt h i = some A) (e2 : anyAt h j = some A) (hl : A.length ≤ 1000) (hp : ∀ d ∈ A, plain 10 d = true) (hk : 10 ≤ k) (q : ∀ l, Q (.bl true) (h ++ l)) : wp (g__law_same' (k + 1) [.ref i, .ref j] h) Q := by
  show wp (runM 4 (b__law_same (g__law_same' k)) [.ref i, .ref j] h) Q
  refine wp_run ?_
  unfold b__law_same
  rw [wo_seqS, wo_ifS, wp_tru]
  refine wp_isT2 ?_
  have i1 : isF [.ref i, .ty .list] h = .ok (.bl true) h := by simp [isF, isT, e1]
  have i2 : isF [.ref i, .ty .tuple] h = .ok (.bl false) h := by simp [isF, isT, e1]
  have i3 : isF [.ref j, .ty .list] h = .ok (.bl true) h := by simp [isF, isT, e2]
  have i4 : isF [.ref j, .ty .tuple] h = .ok (.bl false) h := by simp [isF, isT, e2]
  simp [tyTup, isTs, isT, e2]
  simp [i1, i2, i3, i4, e1, e2]
  refine wp_lc ?_
  have z1 : zipF [.ref i, .ref j] h = .ok (.zipS i j) h := by simp [zipF, e1, e2]
  simp [z1]
  refine .mk (A.map fun x => .tup [x, x]) (fun _ => some (.bl true)) (fun m h' fx => ?_) (by simp; omega) (by simp [Wk.len, e1]) (fun d hd h' fx => ?_) fun l => ?_
  · show (match anyAt h' i, anyAt h' j with | some xs, some ys => (match xs[m]?, ys[m]? with | some x, some y => some (some (D.tup [x, y])) | _, _ => some none) | _, _ => none) = _
    rw [fx.any e1, fx.any e2, List.getElem?_map]
    dsimp only
    cases A[m]? <;> rfl
  · obtain ⟨x, hx, rfl⟩ := List.mem_map.mp hd
    refine ⟨_, rfl, ?_⟩
    simp [wipeD]
    exact ⟨.refl, same_wp 10 x k h' _ (hp x hx) hk fun l => ⟨.more, rfl⟩⟩
  · have em : (A.map fun x => D.tup [x, x]).filterMap (fun _ => some (D.bl true)) = List.replicate A.length (D.bl true) := by
      rw [List.filterMap_eq_map', List.map_map]
      exact map_const
    rw [em]
    refine wp_allF any_new (all_true _) ?_
    have e : (List.replicate A.length true).all id = true := by simp
    rw [e]
    exact q _
end
theorem take_wp {u k : Nat} {n : Int} {h : Sto} {P : D → Sto → Prop} (U : Ur k u h) (hk : k < 1000000) (hn : 0 < n) (hn2 : n < 1000000) (q : ∀ (d : Int) h', 0 ≤ d → d < n → Fu u h h' → Ur (k + 1) u h' → h'.length = h.length → P (.int d) h') : wp (g__law_take [.ref u, .int n] h) P := by
  obtain ⟨a, b, c, e, ha, hc, hck⟩ := U
  have hu := (List.getElem?_eq_some_iff.mp e).1
  have e1 : anyAt h u = some [.int a, .int b, .int c] := by unfold anyAt; rw [e]
  have e2 : lstAt h u = some [.int a, .int b, .int c] := by unfold lstAt; rw [e]
  have e3 : ∀ xs : List D, (h.set u (.lst xs))[u]? = some (.lst xs) := fun xs => List.getElem?_set_self hu
  have e4 : ∀ xs : List D, anyAt (h.set u (.lst xs)) u = some xs := fun xs => by unfold anyAt; rw [e3]
  have fin : ∀ (d a' c' : Int), 0 ≤ d → d < n → 0 ≤ a' → 0 ≤ c' → c' ≤ (k + 1 : Nat) → P (.int d) (h.set u (.lst [.int a', .int b, .int c'])) := fun d a' c' h1 h2 h3 h4 h5 => q d _ h1 h2 Fu.put ⟨a', b, c', e3 _, h3, h4, h5⟩ (by simp)
  unfold g__law_take
  refine wp_run ?_
  unfold b__law_take
  simp [e1, e2, e4, at0, at1, at2, setF, ixN]
  by_cases c0 : 0 < a
  · exact .inr ⟨c0, hn, ⟨hn, by omega⟩, fin _ _ _ (Int.emod_nonneg _ (by omega)) (Int.emod_lt_of_pos _ hn) (Int.ediv_nonneg ha (by omega)) hc (by omega)⟩
  · refine .inl ⟨by omega, .inr (by omega), .inr ⟨?_, ?_⟩, hn, fin _ _ _ (Int.emod_nonneg _ (by omega)) (Int.emod_lt_of_pos _ hn) ha (by omega) (by omega)⟩ <;> omega

section
variable {Q : D → Sto → Prop} {d l w : Int} {h : Sto}
theorem max_lo {a b : Int} {P : D → Sto → Prop} (q : P (.int (if b > a then b else a)) h) : wp (maxF [.int a, .int b] h) P := ⟨_, _, rfl, q⟩
theorem tx_ref {n : Nat} (e : anyAt h n = some [.int d, .int l, .int w]) : Tx h (.ref n) d l := ⟨by simp [ixD, e, at0], by simp [ixD, e, at1]⟩
theorem lx_ref {n m : Nat} {p a s e : Int} {t : Str} (e1 : anyAt h n = some [.int p, .int a, .ref m, .int e]) (e2 : anyAt h m = some [.str t, .int s]) : Lx h (.ref n) a s e := ⟨by simp [ixD, e1, at1], ⟨_, by simp [ixD, e1, at2]; rfl, by simp [ixD, e2, at1]⟩, by simp [ixD, e1, at3]⟩
theorem any_two {l : Sto} {x y : Cl} {xs : List D} : anyAt (h ++ [x, .lst xs] ++ l) (h.length + 1) = some xs := by
  unfold anyAt
  rw [List.append_assoc, List.getElem?_append_right (by omega)]
  simp
end
section
variable {h : Sto} {Q : D → Sto → Prop}
theorem toPy_ints {k : Nat} : ∀ ns : List Int, optAll ((ns.map D.int).map (toPy (k + 1) h)) = some (ns.map PyData.int)
  | [] => rfl
  | n :: ns => by
    have ih := toPy_ints (k := k) ns
    simp only [List.map_cons]
    rw [show toPy (k + 1) h (.int n) = some (.int n) from rfl]
    unfold optAll
    rw [ih]
theorem ints_shape : ∀ ns : List Int, PyData.canLayAll0 (ns.map PyData.int) = true ∧ PyData.depthAll (ns.map PyData.int) ≤ 5
  | [] => by simp [PyData.canLayAll0, PyData.depthAll]
  | n :: ns => by
    obtain ⟨a, b⟩ := ints_shape ns
    simp [PyData.canLayAll0, PyData.canLay0, PyData.depthAll, PyData.depth, a]; omega
theorem in_of {ns : List Int} {p : Int} {y : D} (es : seqPy h y = some (ns.map PyData.int)) : inD (.int p) y h = .ok (.bl (decide (p ∈ ns))) h := by
  have ei : inO h (.int p) y = some (decide (p ∈ ns)) := by
    unfold inO
    rw [es, show toPy 70 h (.int p) = some (.int p) from rfl]
    have : SeqAt.shaped (.int p) = true := by simp [SeqAt.shaped, PyData.canLay0, PyData.depth]
    simp [this]
    clear es this
    rw [Bool.eq_iff_iff]
    simp [PyData.eqv]
  unfold inD
  rw [ei]
theorem in_list {r : Nat} {ns : List Int} {p : Int} (e : anyAt h r = some (ns.map D.int)) : inD (.int p) (.ref r) h = .ok (.bl (decide (p ∈ ns))) h := by
  refine in_of ?_
  have t : toPy 70 h (.ref r) = some (.list (ns.map PyData.int)) := by
    show (match anyAt h r with | some xs => (match optAll (xs.map (toPy 69 h)) with | some ys => some (PyData.list ys) | none => none) | none => none) = _
    rw [e]
    dsimp only
    rw [toPy_ints]
  obtain ⟨p1, p2⟩ := ints_shape ns
  unfold seqPy
  rw [t]
  have : SeqAt.shaped (.list (ns.map PyData.int)) = true := by
    simp [SeqAt.shaped, PyData.canLay0, PyData.depth, p1]; omega
  simp [this]
theorem in_tup {ns : List Int} {p : Int} : inD (.int p) (.tup (ns.map D.int)) h = .ok (.bl (decide (p ∈ ns))) h := by
  refine in_of ?_
  have t : toPy 70 h (.tup (ns.map D.int)) = some (.tuple (ns.map PyData.int)) := by
    show (match optAll ((ns.map D.int).map (toPy 69 h)) with | some ys => some (PyData.tuple ys) | none => none) = _
    rw [toPy_ints]
  obtain ⟨p1, p2⟩ := ints_shape ns
  unfold seqPy
  rw [t]
  have : SeqAt.shaped (.tuple (ns.map PyData.int)) = true := by
    simp [SeqAt.shaped, PyData.canLay0, PyData.depth, p1]; omega
  simp [this]
/-! ### images -/
abbrev imD (s : Int) : D := .tup [.str (PySem.Str.ofString "image"), .int s]
abbrev imP (s : Int) : PyData := .tuple [.str (PySem.Str.ofString "image"), .int s]
theorem py_img : (PyData.str (PySem.Str.ofString "image")).canLay0 = true := by kernel_rfl
theorem toPy_ims {k : Nat} : ∀ ns : List Int, optAll ((ns.map imD).map (toPy (k + 3) h)) = some (ns.map imP)
  | [] => rfl
  | n :: ns => by
    have ih := toPy_ims (k := k) ns
    simp only [List.map_cons]
    rw [show toPy (k + 3) h (imD n) = some (imP n) from rfl]
    unfold optAll
    rw [ih]
theorem ims_shape : ∀ ns : List Int, PyData.canLayAll0 (ns.map imP) = true ∧ PyData.depthAll (ns.map imP) ≤ 5
  | [] => by simp [PyData.canLayAll0, PyData.depthAll]
  | n :: ns => by
    obtain ⟨a, b⟩ := ims_shape ns
    have := py_img
    simp [PyData.canLay0] at this
    simp [PyData.canLayAll0, PyData.canLay0, PyData.depthAll, PyData.depth, a, this]; omega
theorem eqv_im {a b : Int} : PyData.eqv (imP a) (imP b) = decide (a = b) := by
  simp [PyData.eqv, PyData.eqvAll]
  rw [Bool.eq_iff_iff]; simp
theorem in_ims {ns : List Int} {p : Int} : inD (imD p) (.tup (ns.map imD)) h = .ok (.bl (decide (p ∈ ns))) h := by
  have t : toPy 70 h (.tup (ns.map imD)) = some (.tuple (ns.map imP)) := by
    show (match optAll ((ns.map imD).map (toPy 69 h)) with | some ys => some (PyData.tuple ys) | none => none) = _
    rw [toPy_ims (k := 66)]
  obtain ⟨p1, p2⟩ := ims_shape ns
  have es : seqPy h (.tup (ns.map imD)) = some (ns.map imP) := by
    unfold seqPy
    rw [t]
    have : SeqAt.shaped (.tuple (ns.map imP)) = true := by
      simp [SeqAt.shaped, PyData.canLay0, PyData.depth, p1]; omega
    simp [this]
  have ei : inO h (imD p) (.tup (ns.map imD)) = some (decide (p ∈ ns)) := by
    unfold inO
    rw [es, show toPy 70 h (imD p) = some (imP p) from rfl]
    have : SeqAt.shaped (imP p) = true := by
      have := ims_shape [p]
      have := py_img
      simp [PyData.canLay0] at this
      simp [SeqAt.shaped, PyData.canLay0, PyData.canLayAll0, PyData.depth, PyData.depthAll, this]
    simp only [this, if_true]
    congr 1
    clear es t p1 p2 this
    induction ns with
    | nil => rfl
    | cons n ns ih =>
      rw [List.map_cons, List.any_cons, ih, eqv_im]
      by_cases c : n = p
      · subst c; simp
      · have c2 : ¬ p = n := fun z => c z.symm
        simp [c, c2]
  unfold inD
  rw [ei]
theorem eq_im {a b : Int} : eqD (imD a) (imD b) h = .ok (.bl (decide (a = b))) h := by
  have e : eqO h (imD a) (imD b) = some (decide (a = b)) := by
    unfold eqO
    rw [show toPy 70 h (imD a) = some (imP a) from rfl, show toPy 70 h (imD b) = some (imP b) from rfl]
    have := py_img
    simp [PyData.canLay0] at this
    have s : ∀ p : Int, SeqAt.shaped (imP p) = true := fun p => by simp [SeqAt.shaped, PyData.canLay0, PyData.canLayAll0, PyData.depth, PyData.depthAll, this]
    dsimp only
    rw [s a, s b, eqv_im]
    rfl
  unfold eqD
  rw [e]
end
end K11
namespace K11
open PySem PySem.Spec L2 Ml
/-! ### data without lists and truths: == is equality -/
def flat : Nat → D → Bool
  | 0, _ => false
  | n + 1, d => match d with
    | .non => true
    | .int _ => true
    | .str s => decide (s ∈ words)
    | .tup xs => decide (xs.length ≤ 1000) && xs.all (flat n)
    | _ => false
theorem flat_plain : ∀ {n : Nat} {d : D}, flat n d = true → plain n d = true
  | 0, _, e => nomatch e
  | n + 1, d, e => by
    cases d with
    | non => rfl
    | int i => rfl
    | str s => exact e
    | bl _ => cases e
    | ty _ => cases e
    | ref _ => cases e
    | tup xs =>
      have e' : (decide (xs.length ≤ 1000) && xs.all (flat n)) = true := e
      show (decide (xs.length ≤ 1000) && xs.all (plain n)) = true
      simp at e' ⊢
      exact ⟨e'.1, fun x hx => flat_plain (e'.2 x hx)⟩
theorem flat_succ : ∀ {n : Nat} {d : D}, flat n d = true → flat (n + 1) d = true
  | 0, _, e => nomatch e
  | n + 1, d, e => by
    cases d with
    | non => rfl
    | int i => rfl
    | str s => exact e
    | bl _ => cases e
    | ty _ => cases e
    | ref _ => cases e
    | tup xs =>
      have e' : (decide (xs.length ≤ 1000) && xs.all (flat n)) = true := e
      show (decide (xs.length ≤ 1000) && xs.all (flat (n + 1))) = true
      simp at e' ⊢
      exact ⟨e'.1, fun x hx => flat_succ (e'.2 x hx)⟩
theorem flat_le {n m : Nat} {d : D} (h : n ≤ m) (e : flat n d = true) : flat m d = true := by
  induction h with
  | refl => exact e
  | step _ ih => exact flat_succ ih
def pyD : Nat → D → PyData
  | 0, _ => .none
  | n + 1, d => match d with
    | .int i => .int i
    | .str s => .str s
    | .tup xs => .tuple (xs.map (pyD n))
    | _ => .none
theorem word_lay {s : Str} (h : s ∈ words) : (PyData.str s).canLay0 = true := by
  simp only [words, List.mem_cons, List.not_mem_nil, or_false] at h
  rcases h with rfl | rfl | rfl | rfl | rfl | rfl | rfl | rfl | rfl | rfl | rfl <;> kernel_rfl
section
variable {h : Sto} {Q : D → Sto → Prop}
theorem toPy_flat : ∀ (n k : Nat) (d : D), flat n d = true → n ≤ k → toPy k h d = some (pyD n d) ∧ (pyD n d).canLay0 = true ∧ (pyD n d).depth ≤ n
  | 0, _, _, e, _ => nomatch e
  | n + 1, 0, _, _, hk => absurd hk (by omega)
  | n + 1, k + 1, d, e, hk => by
    cases d with
    | non => exact ⟨rfl, rfl, by simp [pyD, PyData.depth]⟩
    | int i => exact ⟨rfl, rfl, by simp [pyD, PyData.depth]⟩
    | str s => exact ⟨rfl, word_lay (of_decide_eq_true e), by simp [pyD, PyData.depth]⟩
    | bl _ => cases e
    | ty _ => cases e
    | ref _ => cases e
    | tup xs =>
      have e' : (decide (xs.length ≤ 1000) && xs.all (flat n)) = true := e
      simp at e'
      obtain ⟨_, ha⟩ := e'
      have all : ∀ ys : List D, (∀ y ∈ ys, flat n y = true) → optAll (ys.map (toPy k h)) = some (ys.map (pyD n)) ∧ PyData.canLayAll0 (ys.map (pyD n)) = true ∧ PyData.depthAll (ys.map (pyD n)) ≤ n := by
        intro ys
        induction ys with
        | nil => exact fun _ => ⟨rfl, rfl, by simp [PyData.depthAll]⟩
        | cons y ys ih =>
          intro hy
          obtain ⟨e1, c1, d1⟩ := toPy_flat n k y (hy y (List.mem_cons_self ..)) (by omega)
          obtain ⟨e2, c2, d2⟩ := ih fun z hz => hy z (List.mem_cons_of_mem _ hz)
          refine ⟨?_, by simp [PyData.canLayAll0, c1, c2], by simp [PyData.depthAll]; omega⟩
          simp only [List.map_cons]
          rw [e1]
          unfold optAll
          rw [e2]
      obtain ⟨e2, c2, d2⟩ := all xs ha
      refine ⟨?_, c2, by simp [pyD, PyData.depth]; omega⟩
      show (match optAll (xs.map (toPy k h)) with | some ys => some (PyData.tuple ys) | none => none) = _
      rw [e2]
      rfl
theorem eqv_flat : ∀ (n : Nat) (x y : D), flat n x = true → flat n y = true → (PyData.eqv (pyD n x) (pyD n y) = true ↔ x = y)
  | 0, _, _, e, _ => nomatch e
  | n + 1, x, y, ex, ey => by
    cases x with
    | bl _ => cases ex
    | ty _ => cases ex
    | ref _ => cases ex
    | non => cases y with
      | bl _ => cases ey
      | ty _ => cases ey
      | ref _ => cases ey
      | non => simp [pyD, PyData.eqv]
      | int _ => simp [pyD, PyData.eqv]
      | str _ => simp [pyD, PyData.eqv]
      | tup _ => simp [pyD, PyData.eqv]
    | int _ => cases y with
      | bl _ => cases ey
      | ty _ => cases ey
      | ref _ => cases ey
      | non => simp [pyD, PyData.eqv]
      | int _ => simp [pyD, PyData.eqv]
      | str _ => simp [pyD, PyData.eqv]
      | tup _ => simp [pyD, PyData.eqv]
    | str _ => cases y with
      | bl _ => cases ey
      | ty _ => cases ey
      | ref _ => cases ey
      | non => simp [pyD, PyData.eqv]
      | int _ => simp [pyD, PyData.eqv]
      | str _ => simp [pyD, PyData.eqv]
      | tup _ => simp [pyD, PyData.eqv]
    | tup xs => cases y with
      | bl _ => cases ey
      | ty _ => cases ey
      | ref _ => cases ey
      | non => simp [pyD, PyData.eqv]
      | int _ => simp [pyD, PyData.eqv]
      | str _ => simp [pyD, PyData.eqv]
      | tup ys =>
        have ex' : (decide (xs.length ≤ 1000) && xs.all (flat n)) = true := ex
        have ey' : (decide (ys.length ≤ 1000) && ys.all (flat n)) = true := ey
        simp at ex' ey'
        have all : ∀ as bs : List D, (∀ x ∈ as, flat n x = true) → (∀ x ∈ bs, flat n x = true) → (PyData.eqvAll (as.map (pyD n)) (bs.map (pyD n)) = true ↔ as = bs) := by
          intro as
          induction as with
          | nil => intro bs _ _; cases bs <;> simp [PyData.eqvAll]
          | cons a as ih =>
            intro bs h1 h2
            cases bs with
            | nil => simp [PyData.eqvAll]
            | cons b bs =>
              have i1 := eqv_flat n a b (h1 a List.mem_cons_self) (h2 b List.mem_cons_self)
              have i2 := ih bs (fun x hx => h1 x (List.mem_cons_of_mem _ hx)) (fun x hx => h2 x (List.mem_cons_of_mem _ hx))
              simp only [List.map_cons, PyData.eqvAll, Bool.and_eq_true, i1, i2]
              constructor
              · rintro ⟨rfl, rfl⟩; rfl
              · intro z; cases z; exact ⟨rfl, rfl⟩
        simp only [pyD, PyData.eqv]
        rw [all xs ys ex'.2 ey'.2]
        constructor
        · intro z; rw [z]
        · intro z; cases z; rfl
noncomputable def eqc (x y : D) : Bool := @decide (x = y) (Classical.propDecidable _)
theorem eqc_iff {x y : D} : eqc x y = true ↔ x = y := by unfold eqc; exact @decide_eq_true_iff _ (Classical.propDecidable _)
theorem eqc_self {x : D} : eqc x x = true := eqc_iff.mpr rfl
theorem eqc_ne {x y : D} (n : x ≠ y) : eqc x y = false := by
  cases e : eqc x y with
  | false => rfl
  | true => exact absurd (eqc_iff.mp e) n
theorem eqO_flat {n : Nat} {x y : D} (hn : n ≤ 20) (ex : flat n x = true) (ey : flat n y = true) : eqO h x y = some (eqc x y) := by
  obtain ⟨t1, c1, d1⟩ := toPy_flat (h := h) n 70 x ex (by omega)
  obtain ⟨t2, c2, d2⟩ := toPy_flat (h := h) n 70 y ey (by omega)
  unfold eqO
  rw [t1, t2]
  have s1 : SeqAt.shaped (pyD n x) = true := by simp [SeqAt.shaped, c1]; omega
  have s2 : SeqAt.shaped (pyD n y) = true := by simp [SeqAt.shaped, c2]; omega
  dsimp only
  rw [s1, s2, if_pos (by rfl)]
  congr 1
  rw [Bool.eq_iff_iff, eqc_iff]
  exact eqv_flat n x y ex ey
theorem eqD_flat {n : Nat} {x y : D} (hn : n ≤ 20) (ex : flat n x = true) (ey : flat n y = true) : eqD x y h = .ok (.bl (eqc x y)) h := by
  unfold eqD; rw [eqO_flat hn ex ey]
theorem neD_flat {n : Nat} {x y : D} (hn : n ≤ 20) (ex : flat n x = true) (ey : flat n y = true) : neD x y h = .ok (.bl (!eqc x y)) h := by
  unfold neD; rw [eqO_flat hn ex ey]
noncomputable def inc (x : D) (xs : List D) : Bool := @decide (x ∈ xs) (Classical.propDecidable _)
theorem inc_iff {x : D} {xs : List D} : inc x xs = true ↔ x ∈ xs := by unfold inc; exact @decide_eq_true_iff _ (Classical.propDecidable _)
theorem inO_flat {n : Nat} {x : D} {xs : List D} (hn : n ≤ 20) (ex : flat n x = true) (es : flat (n + 1) (.tup xs) = true) : inO h x (.tup xs) = some (inc x xs) := by
  obtain ⟨t1, c1, d1⟩ := toPy_flat (h := h) n 70 x ex (by omega)
  obtain ⟨t2, c2, d2⟩ := toPy_flat (h := h) (n + 1) 70 (.tup xs) es (by omega)
  have s1 : SeqAt.shaped (pyD n x) = true := by simp [SeqAt.shaped, c1]; omega
  have s2 : SeqAt.shaped (pyD (n + 1) (.tup xs)) = true := by simp [SeqAt.shaped, c2]; omega
  have t2 : toPy 70 h (.tup xs) = some (.tuple (xs.map (pyD n))) := t2
  have s2 : SeqAt.shaped (.tuple (xs.map (pyD n))) = true := s2
  have es' : (decide (xs.length ≤ 1000) && xs.all (flat n)) = true := es
  simp at es'
  unfold inO seqPy
  rw [t1, t2]
  dsimp only
  rw [if_pos s2]
  dsimp only
  rw [if_pos s1]
  congr 1
  rw [Bool.eq_iff_iff, inc_iff, List.any_eq_true]
  constructor
  · rintro ⟨z, hz, e⟩
    obtain ⟨y, hy, rfl⟩ := List.mem_map.mp hz
    rw [← (eqv_flat n y x (es'.2 y hy) ex).mp e]
    exact hy
  · intro hx
    exact ⟨_, List.mem_map.mpr ⟨x, hx, rfl⟩, (eqv_flat n x x ex ex).mpr rfl⟩
theorem inD_flat {n : Nat} {x : D} {xs : List D} (hn : n ≤ 20) (ex : flat n x = true) (es : flat (n + 1) (.tup xs) = true) : inD x (.tup xs) h = .ok (.bl (inc x xs)) h := by
  unfold inD; rw [inO_flat hn ex es]
theorem notInD_flat {n : Nat} {x : D} {xs : List D} (hn : n ≤ 20) (ex : flat n x = true) (es : flat (n + 1) (.tup xs) = true) : notInD x (.tup xs) h = .ok (.bl (!inc x xs)) h := by
  unfold notInD; rw [inO_flat hn ex es]
/-- a list of such data beside an empty one -/
theorem eq_nil_flat {n r r2 : Nat} {xs : List D} (hn : n ≤ 19) (e1 : anyAt h r = some xs) (e2 : anyAt h r2 = some []) (f : flat (n + 1) (.tup xs) = true) : eqO h (.ref r) (.ref r2) = some (decide (xs = [])) := by
  obtain ⟨t2, c2, d2⟩ := toPy_flat (h := h) (n + 1) 70 (.tup xs) f (by omega)
  have hx : toPy 70 h (.tup xs) = (match optAll (xs.map (toPy 69 h)) with | some ys => some (PyData.tuple ys) | none => none) := rfl
  have t1 : toPy 70 h (.ref r) = some (.list (xs.map (pyD n))) := by
    show (match anyAt h r with | some xs => (match optAll (xs.map (toPy 69 h)) with | some ys => some (PyData.list ys) | none => none) | none => none) = _
    rw [e1]
    dsimp only
    rw [hx] at t2
    cases eo : optAll (xs.map (toPy 69 h)) with
    | none => rw [eo] at t2; cases t2
    | some ys => rw [eo] at t2; injection t2 with t2; injection t2 with t2; rw [t2]
  have t3 : toPy 70 h (.ref r2) = some (.list []) := by
    show (match anyAt h r2 with | some xs => (match optAll (xs.map (toPy 69 h)) with | some ys => some (PyData.list ys) | none => none) | none => none) = _
    rw [e2]
    rfl
  have s1 : SeqAt.shaped (.list (xs.map (pyD n))) = true := by
    have c3 : PyData.canLayAll0 (xs.map (pyD n)) = true := c2
    have d3 : PyData.depthAll (xs.map (pyD n)) ≤ n := by simpa [pyD, PyData.depth] using d2
    simp [SeqAt.shaped, PyData.canLay0, PyData.depth, c3]; omega
  have s2 : SeqAt.shaped (.list []) = true := by simp [SeqAt.shaped, PyData.canLay0, PyData.canLayAll0, PyData.depth, PyData.depthAll]
  unfold eqO
  rw [t1, t3]
  dsimp only
  rw [s1, s2]
  cases xs <;> rfl
end
end K11
namespace K11
open PySem PySem.Spec L2 Ml
section
variable {h : Sto} {Q : D → Sto → Prop}
theorem Fu.putN {u n : Nat} {h0 h1 : Sto} {c : Cl} (f : Fu u h0 h1) (hn : h0.length ≤ n) : Fu u h0 (h1.set n c) :=
  ⟨by simp; exact f.len, fun i hi hl => by rw [List.getElem?_set_ne (by omega)]; exact f.old i hi hl⟩
theorem Ur.putN {k u n : Nat} {h1 : Sto} {c : Cl} (x : Ur k u h1) (hn : n ≠ u) : Ur k u (h1.set n c) := by
  obtain ⟨a, b, c', e, z⟩ := x
  exact ⟨a, b, c', by rw [List.getElem?_set_ne hn]; exact e, z⟩
theorem Ur.le {k k' u : Nat} {h1 : Sto} (x : Ur k u h1) (hk : k ≤ k') : Ur k' u h1 := by
  obtain ⟨a, b, c, e, z1, z2, z3⟩ := x
  exact ⟨a, b, c, e, z1, z2, by omega⟩
theorem lst_put {h : Sto} {r : Nat} {A B : List D} (e : lstAt h r = some A) : lstAt (h.set r (.lst B)) r = some B := by
  have := (List.getElem?_eq_some_iff.mp (lstAt_of e)).1
  simp [lstAt, List.getElem?_set_self this]
theorem lst_other {h : Sto} {r n : Nat} {A : List D} {c : Cl} (hn : n ≠ r) (e : lstAt h r = some A) : lstAt (h.set n c) r = some A := by
  unfold lstAt at *
  rw [List.getElem?_set_ne hn]; exact e
end
/-- y is x, its tuples made lists; their places are from b on -/
def Lo : Nat → D → D → Nat → Sto → Prop
  | 0, _, _, _, _ => False
  | n + 1, x, y, b, g => match x with
    | .tup xs => ∃ r ys, y = .ref r ∧ b ≤ r ∧ lstAt g r = some ys ∧ ys.length = xs.length ∧ ∀ (i : Nat) (x y : D), xs[i]? = some x → ys[i]? = some y → Lo n x y b g
    | x => y = x
theorem Lo.mono : ∀ {n : Nat} {x y : D} {b b' : Nat} {g g' : Sto}, Lo n x y b g → b' ≤ b → (∀ r xs, b ≤ r → lstAt g r = some xs → lstAt g' r = some xs) → Lo n x y b' g'
  | 0, _, _, _, _, _, _, l, _, _ => l
  | n + 1, x, y, b, b', g, g', l, hb, f => by
    cases x with
    | tup xs =>
      obtain ⟨r, ys, rfl, hr, e, hl, z⟩ := l
      exact ⟨r, ys, rfl, by omega, f r ys hr e, hl, fun i x y e1 e2 => (z i x y e1 e2).mono hb f⟩
    | _ => exact l
theorem lst_lt {h : Sto} {r : Nat} {xs : List D} (e : lstAt h r = some xs) : r < h.length := (List.getElem?_eq_some_iff.mp (lstAt_of e)).1
theorem li_wp : ∀ (n : Nat) (d : D) (k : Nat) (h : Sto) (Q : D → Sto → Prop), plain n d = true → n ≤ k → (∀ y l, Lo n d y h.length (h ++ l) → Q y (h ++ l)) → wp (g__law_lists' k [d] h) Q
  | 0, _, _, _, _, e, _, _ => nomatch e
  | n + 1, d, 0, _, _, _, hk, _ => absurd hk (by omega)
  | n + 1, d, k + 1, h, Q, e, hk, q => by
    have q0 : Lo (n + 1) d d h.length h → Q d h := fun l => by simpa using q d [] (by simpa using l)
    cases d with
    | non => rw [li_non]; exact wp_ok.2 (q0 rfl)
    | bl b =>
      have : g__law_lists' (k + 1) [.bl b] h = .ok (.bl b) h := by cases b <;> kernel_rfl
      rw [this]; exact wp_ok.2 (q0 rfl)
    | int i => rw [li_int]; exact wp_ok.2 (q0 rfl)
    | str s => rw [li_str]; exact wp_ok.2 (q0 rfl)
    | ty _ => cases e
    | ref _ => cases e
    | tup xs =>
      have e' : (decide (xs.length ≤ 1000) && xs.all (plain n)) = true := e
      simp at e'
      obtain ⟨hl, ha⟩ := e'
      show wp (runM 2 (b__law_lists (g__law_lists' k)) [.tup xs] h) Q
      refine wp_run ?_
      unfold b__law_lists
      have i1 : isF [.tup xs, .ty .list] h = .ok (.bl false) h := rfl
      have i2 : isF [.tup xs, .ty .tuple] h = .ok (.bl true) h := rfl
      simp [mTru]
      refine wp_isT2 ?_
      simp [tyTup, isTs, isT]
      unfold mLc
      rw [wp_bind]
      simp
      refine wp_loopC_inv xs (fun i acc g => i ≤ xs.length ∧ acc.length = i ∧ (∃ l, g = h ++ .lst acc :: l) ∧ ∀ (j : Nat) (x y : D), xs[j]? = some x → acc[j]? = some y → Lo n x y (h.length + 1) g) (fun _ _ _ _ => rfl) (fun i acc g I => by have := I.1; have := I.2.1; omega) ?_ ?_ _ 0 [] _ ?_ ?_ ?_
      · rintro i d acc g ei ⟨hi, al, ⟨l, rfl⟩, z⟩
        obtain ⟨hi2, rfl⟩ := List.getElem?_eq_some_iff.mp ei
        refine ⟨_, rfl, ?_⟩
        simp [wipeD]
        refine li_wp n xs[i] k _ _ (ha _ (List.getElem_mem hi2)) (by omega) fun y l2 L => ?_
        refine ⟨by simp [lstAt], by omega, al, ⟨l ++ l2, by simp⟩, fun j x y' e1 e2 => ?_⟩
        have keep : ∀ (r : Nat) (as : List D) (g0 : Sto), h.length + 1 ≤ r → lstAt g0 r = some as → lstAt (g0.set h.length (.lst (acc ++ [y]))) r = some as := fun r as g0 hr e => lst_other (by omega) e
        by_cases c : j < i
        · have e3 : acc[j]? = some y' := by rw [List.getElem?_append_left (by omega)] at e2; exact e2
          refine (z j x y' e1 e3).mono (Nat.le_refl _) fun r as hr e => keep r as _ hr ?_
          exact (Fx.more).lst e
        · have cj : j = i := by
            have := (List.getElem?_eq_some_iff.mp e2).1
            simp at this; omega
          subst cj
          rw [List.getElem?_append_right (by omega)] at e2
          simp [al] at e2
          subst e2
          rw [List.getElem?_eq_getElem hi2] at e1
          cases e1
          exact L.mono (by simp) fun r as hr e => keep r as _ (by simp at hr; omega) e
      · rintro acc g ⟨-, al, ⟨l, rfl⟩, z⟩
        exact q _ _ ⟨h.length, acc, rfl, Nat.le_refl _, lst_at_end, al, fun i x y e1 e2 => (z i x y e1 e2).mono (by omega) fun _ _ _ e => e⟩
      · simp [Wk.len]
      · exact Nat.zero_le _
      · exact ⟨Nat.zero_le _, rfl, ⟨[], rfl⟩, fun j x y _ e => by simp at e⟩
section
variable {h : Sto} {Q : D → Sto → Prop}
/-- a comprehension without a test, item by item -/
theorem wp_lcI {mw : MW} {w : Wk} {t : Tg} {me : ME} {vs : List Nat} {ρ : Sl} {h h1 : Sto} (xs ys : List D) (hm : mw ρ h = .ok w h1) (hl : ys.length = xs.length) (small : xs.length < 16777216)
    (its : ∀ i h', Fx h1 h' → w.item h' i = some xs[i]?) (len : xs.length ≤ w.len h1)
    (step : ∀ (i : Nat) (x y : D), xs[i]? = some x → ys[i]? = some y → ∀ h', Fx h1 h' → ∃ ρ1, setTg t x (wipeD ρ vs) h' = some ρ1 ∧ wp (me ρ1 h') fun z h3 => Fx h' h3 ∧ z = y)
    (q : ∀ l, Q (.ref h1.length) (h1 ++ .lst ys :: l)) : wp (mLc mw t mYes me vs ρ h) Q := by
  unfold mLc
  rw [wp_bind, hm, wp_ok, wp_bind]
  refine wp_loopC_inv xs (fun i acc g => i ≤ xs.length ∧ acc = ys.take i ∧ ∃ l, g = h1 ++ .lst acc :: l) (fun i acc g I => its _ _ (by obtain ⟨_, _, l, rfl⟩ := I; exact Fx.more)) (fun i acc g I => by obtain ⟨a, rfl, _⟩ := I; simp; omega) ?_ ?_ _ 0 [] _ (by omega) (Nat.zero_le _) ⟨Nat.zero_le _, rfl, [], rfl⟩
  · rintro i x acc g ei ⟨hi, rfl, l, rfl⟩
    have hi2 := (List.getElem?_eq_some_iff.mp ei).1
    have ey : ys[i]? = some ys[i] := List.getElem?_eq_getElem (by omega)
    obtain ⟨ρ1, e1, s⟩ := step i x ys[i] ei ey _ Fx.more
    refine ⟨ρ1, e1, wp_ok.2 ⟨fun _ => wp_mono s fun z h3 ⟨⟨l2, e3⟩, ez⟩ => ?_, fun z => nomatch z⟩⟩
    subst e3 ez
    have tk : ys.take i ++ [ys[i]] = ys.take (i + 1) := by rw [List.take_succ, ey]; rfl
    exact ⟨by simp [lstAt], by omega, tk, l ++ l2, by simp⟩
  · rintro acc g ⟨-, rfl, l, rfl⟩
    rw [← hl, List.take_length]
    exact wp_ok.2 (q l)
end
/-! ### a view: the data itself, or its tuples (some of them) made lists; no list of it at u -/
def Si (u : Nat) : Nat → D → D → Sto → Prop
  | 0, _, _, _ => False
  | n + 1, x, y, h => match x with
    | .tup xs => ∃ ys, (y = .tup ys ∨ ∃ r, y = .ref r ∧ r ≠ u ∧ anyAt h r = some ys) ∧ ys.length = xs.length ∧ ∀ (i : Nat) (x y : D), xs[i]? = some x → ys[i]? = some y → Si u n x y h
    | x => y = x
section
variable {h h' : Sto} {Q : D → Sto → Prop} {u n b : Nat} {x y : D}
theorem si_plain : ∀ {n : Nat} {x : D}, plain n x = true → Si u n x x h
  | 0, _, e => nomatch e
  | n + 1, x, e => by
    cases x with
    | tup xs =>
      have e' : (decide (xs.length ≤ 1000) && xs.all (plain n)) = true := e
      simp at e'
      refine ⟨xs, .inl rfl, rfl, fun i x y e1 e2 => ?_⟩
      rw [e1] at e2
      cases e2
      exact si_plain (e'.2 x (List.mem_of_getElem? e1))
    | ref _ => cases e
    | ty _ => cases e
    | _ => exact rfl
theorem si_lo (hb : u < b) : ∀ {n : Nat} {x y : D}, Lo n x y b h → Si u n x y h
  | 0, _, _, l => l
  | n + 1, x, y, l => by
    cases x with
    | tup xs =>
      obtain ⟨r, ys, rfl, hr, e, hl, z⟩ := l
      exact ⟨ys, .inr ⟨r, rfl, by omega, lst_any e⟩, hl, fun i x y e1 e2 => si_lo hb (z i x y e1 e2)⟩
    | _ => exact l
theorem si_fu (f : Fu u h h') : ∀ {n : Nat} {x y : D}, Si u n x y h → Si u n x y h'
  | 0, _, _, l => l
  | n + 1, x, y, l => by
    cases x with
    | tup xs =>
      obtain ⟨ys, e, hl, z⟩ := l
      refine ⟨ys, ?_, hl, fun i x y e1 e2 => si_fu f (z i x y e1 e2)⟩
      rcases e with e | ⟨r, e, hr, ea⟩
      · exact .inl e
      · exact .inr ⟨r, e, hr, f.any hr ea⟩
    | _ => exact l
theorem si_fx (f : Fx h h') (l : Si u n x y h) : Si u n x y h' := si_fu f.fu l
theorem si_int {i : Int} (l : Si u (n + 1) (.int i) y h) : y = .int i := l
theorem si_at {xs : List D} {i : Nat} (l : Si u (n + 1) (.tup xs) y h) (e : xs[i]? = some x) : ∃ z, ixD y (.int i) h = .ok z h ∧ Si u n x z h := by
  obtain ⟨ys, ey, hl, z⟩ := l
  have hi := (List.getElem?_eq_some_iff.mp e).1
  have e2 : ys[i]? = some ys[i] := List.getElem?_eq_getElem (by omega)
  refine ⟨_, ?_, z i x _ e e2⟩
  rcases ey with rfl | ⟨r, rfl, hr, ea⟩
  · simp [ixD, atI_nat e2]
  · simp [ixD, ea, atI_nat e2]
theorem si_at0 {xs : List D} (l : Si u (n + 1) (.tup (x :: xs)) y h) : ∃ z, ixD y (.int 0) h = .ok z h ∧ Si u n x z h := si_at (i := 0) l rfl
theorem si_at1 {x0 : D} {xs : List D} (l : Si u (n + 1) (.tup (x0 :: x :: xs)) y h) : ∃ z, ixD y (.int 1) h = .ok z h ∧ Si u n x z h := si_at (i := 1) l rfl
theorem si_at2 {x0 x1 : D} {xs : List D} (l : Si u (n + 1) (.tup (x0 :: x1 :: x :: xs)) y h) : ∃ z, ixD y (.int 2) h = .ok z h ∧ Si u n x z h := si_at (i := 2) l rfl
theorem si_at3 {x0 x1 x2 : D} {xs : List D} (l : Si u (n + 1) (.tup (x0 :: x1 :: x2 :: x :: xs)) y h) : ∃ z, ixD y (.int 3) h = .ok z h ∧ Si u n x z h := si_at (i := 3) l rfl
theorem si_len {xs : List D} (l : Si u (n + 1) (.tup xs) y h) : lenF [y] h = .ok (.int xs.length) h := by
  obtain ⟨ys, ey, hl, z⟩ := l
  rcases ey with rfl | ⟨r, rfl, hr, ea⟩
  · simp [lenF, hl]
  · simp [lenF, ea, hl]
theorem si_seq {xs : List D} (l : Si u (n + 1) (.tup xs) y h) : ∃ (w : Wk) (ys : List D), seqF y h = .ok w h ∧ ys.length = xs.length ∧ (∀ h', Fx h h' → w.len h' = xs.length) ∧ (∀ h', Fx h h' → ∀ i, w.item h' i = some ys[i]?) ∧ ∀ (i : Nat) (x y : D), xs[i]? = some x → ys[i]? = some y → Si u n x y h := by
  obtain ⟨ys, ey, hl, z⟩ := l
  rcases ey with rfl | ⟨r, rfl, hr, ea⟩
  · exact ⟨.tup ys, ys, rfl, hl, fun _ _ => hl, fun _ _ _ => rfl, z⟩
  · refine ⟨.seq r, ys, by simp [seqF, ea], hl, fun h' f => by simp [Wk.len, f.any ea, hl], fun h' f i => by simp [Wk.item, f.any ea], z⟩
theorem si_set {xs : List D} {is : List Nat} {ρ : Sl} (l : Si u (n + 1) (.tup xs) y h) : ∃ ys : List D, setTg (.many is) y ρ h = setAll is ys ρ ∧ ys.length = xs.length ∧ ∀ (i : Nat) (x y : D), xs[i]? = some x → ys[i]? = some y → Si u n x y h := by
  obtain ⟨ys, ey, hl, z⟩ := l
  rcases ey with rfl | ⟨r, rfl, hr, ea⟩
  · exact ⟨ys, rfl, hl, z⟩
  · exact ⟨ys, by simp [setTg, ea], hl, z⟩
/-- two data, one view: a pair, a triple, a quadruple -/
theorem si_two {a b : D} {is : List Nat} {ρ : Sl} (l : Si u (n + 1) (.tup [a, b]) y h) : ∃ a' b' : D, setTg (.many is) y ρ h = setAll is [a', b'] ρ ∧ Si u n a a' h ∧ Si u n b b' h := by
  obtain ⟨ys, e, hl, z⟩ := si_set (is := is) (ρ := ρ) l
  match ys, hl with
  | [a', b'], _ => exact ⟨a', b', e, z 0 _ _ rfl rfl, z 1 _ _ rfl rfl⟩
theorem si_three {a b c : D} {is : List Nat} {ρ : Sl} (l : Si u (n + 1) (.tup [a, b, c]) y h) : ∃ a' b' c' : D, setTg (.many is) y ρ h = setAll is [a', b', c'] ρ ∧ Si u n a a' h ∧ Si u n b b' h ∧ Si u n c c' h := by
  obtain ⟨ys, e, hl, z⟩ := si_set (is := is) (ρ := ρ) l
  match ys, hl with
  | [a', b', c'], _ => exact ⟨a', b', c', e, z 0 _ _ rfl rfl, z 1 _ _ rfl rfl, z 2 _ _ rfl rfl⟩
theorem si_ints {ns : List Int} (l : Si u (n + 2) (.tup (ns.map D.int)) y h) : y = .tup (ns.map D.int) ∨ ∃ r, y = .ref r ∧ r ≠ u ∧ anyAt h r = some (ns.map D.int) := by
  obtain ⟨ys, ey, hl, z⟩ := l
  have : ys = ns.map D.int := by
    refine List.ext_getElem hl fun i h1 h2 => ?_
    have := z i _ _ (List.getElem?_eq_getElem h2) (List.getElem?_eq_getElem h1)
    simp only [List.getElem_map] at this ⊢
    exact this
  subst this
  exact ey
end
end K11
namespace K11
open PySem PySem.Spec L2 Ml
/-! ### any value that may turn up -/
def Tm (u b : Nat) (h : Sto) : Nat → D → Prop
  | 0, d => match d with
    | .non => True
    | .bl _ => True
    | .int _ => True
    | .str s => (PyData.str s).canLay0 = true
    | _ => False
  | n + 1, d => match d with
    | .non => True
    | .bl _ => True
    | .int _ => True
    | .str s => (PyData.str s).canLay0 = true
    | .tup xs => xs.length ≤ b ∧ ∀ x ∈ xs, Tm u b h n x
    | .ref r => r ≠ u ∧ ∃ xs, anyAt h r = some xs ∧ xs.length ≤ b ∧ ∀ x ∈ xs, Tm u b h n x
    | .ty _ => False
section
variable {h h' : Sto} {Q : D → Sto → Prop} {u b n : Nat} {d : D}
theorem tm_fu (f : Fu u h h') : ∀ {n : Nat} {d : D}, Tm u b h n d → Tm u b h' n d
  | 0, d, t => by cases d <;> exact t
  | n + 1, d, t => by
    cases d with
    | tup xs => exact ⟨t.1, fun x hx => tm_fu f (t.2 x hx)⟩
    | ref r =>
      obtain ⟨ne, xs, e, hl, ha⟩ := t
      exact ⟨ne, xs, f.any ne e, hl, fun x hx => tm_fu f (ha x hx)⟩
    | _ => exact t
theorem tm_fx (f : Fx h h') (t : Tm u b h n d) : Tm u b h' n d := tm_fu f.fu t
theorem tm_le {b' : Nat} (hb : b ≤ b') : ∀ {n m : Nat} {d : D}, n ≤ m → Tm u b h n d → Tm u b' h m d
  | 0, 0, d, _, t => by cases d <;> exact t
  | 0, m + 1, d, _, t => by
    cases d with
    | tup xs => exact t.elim
    | ref r => exact t.elim
    | _ => exact t
  | n + 1, 0, d, hm, _ => absurd hm (by omega)
  | n + 1, m + 1, d, hm, t => by
    cases d with
    | tup xs => exact ⟨by have := t.1; omega, fun x hx => tm_le hb (by omega) (t.2 x hx)⟩
    | ref r =>
      obtain ⟨ne, xs, e, hl, ha⟩ := t
      exact ⟨ne, xs, e, by omega, fun x hx => tm_le hb (by omega) (ha x hx)⟩
    | _ => exact t
theorem tm_tup {xs : List D} (hl : xs.length ≤ b) (ha : ∀ x ∈ xs, Tm u b h n x) : Tm u b h (n + 1) (.tup xs) := ⟨hl, ha⟩
theorem tm_in {xs : List D} (t : Tm u b h n (.tup xs)) : ∀ x ∈ xs, Tm u b h n x := by
  cases n with
  | zero => exact t.elim
  | succ n => exact fun x hx => tm_le (Nat.le_refl _) (Nat.le_succ _) (t.2 x hx)
theorem tm_len {xs : List D} (t : Tm u b h n (.tup xs)) : xs.length ≤ b := by
  cases n with
  | zero => exact t.elim
  | succ n => exact t.1
theorem tm_ref {r : Nat} (t : Tm u b h n (.ref r)) : ∃ xs, anyAt h r = some xs := by
  cases n with
  | zero => exact t.elim
  | succ n => obtain ⟨_, xs, e, _⟩ := t; exact ⟨xs, e⟩
theorem tm_ty {t : T5} : ¬ Tm u b h n (.ty t) := by
  cases n <;> exact fun z => z
/-- as data of the model -/
theorem toPy_tm : ∀ (n k : Nat) (d : D), Tm u b h n d → n < k → ∃ p, toPy k h d = some p ∧ p.canLay0 = true ∧ p.depth ≤ n ∧ (∀ s, d = .str s → p = .str s) ∧ ((∀ s, d ≠ .str s) → ∀ t, PyData.eqv p (.str t) = false) ∧ (∀ xs, d = .tup xs → ∃ ps, p = .tuple ps ∧ ps.length = xs.length)
  | n, 0, _, _, hk => absurd hk (by omega)
  | n, k + 1, .non, _, _ => ⟨.none, rfl, rfl, by simp [PyData.depth], (fun _ z => nomatch z), fun _ _ => by simp [PyData.eqv], (fun _ z => nomatch z)⟩
  | n, k + 1, .bl c, _, _ => ⟨.bool c, rfl, rfl, by simp [PyData.depth], (fun _ z => nomatch z), fun _ _ => by simp [PyData.eqv], (fun _ z => nomatch z)⟩
  | n, k + 1, .int i, _, _ => ⟨.int i, rfl, rfl, by simp [PyData.depth], (fun _ z => nomatch z), fun _ _ => by simp [PyData.eqv], (fun _ z => nomatch z)⟩
  | n, k + 1, .str s, t, _ => ⟨.str s, rfl, by cases n <;> exact t, by simp [PyData.depth], fun _ z => by cases z; rfl, fun z => absurd rfl (z s), (fun _ z => nomatch z)⟩
  | n, k + 1, .ty _, t, _ => absurd t tm_ty
  | 0, k + 1, .tup _, t, _ => t.elim
  | 0, k + 1, .ref _, t, _ => t.elim
  | n + 1, k + 1, .tup xs, t, hk => by
    have all : ∀ ys : List D, (∀ y ∈ ys, Tm u b h n y) → ∃ ps, optAll (ys.map (toPy k h)) = some ps ∧ PyData.canLayAll0 ps = true ∧ PyData.depthAll ps ≤ n ∧ ps.length = ys.length := by
      intro ys
      induction ys with
      | nil => exact fun _ => ⟨[], rfl, rfl, by simp [PyData.depthAll], rfl⟩
      | cons y ys ih =>
        intro hy
        obtain ⟨p, e1, c1, d1, -, -, -⟩ := toPy_tm n k y (hy y (List.mem_cons_self ..)) (by omega)
        obtain ⟨ps, e2, c2, d2, l2⟩ := ih fun z hz => hy z (List.mem_cons_of_mem _ hz)
        refine ⟨p :: ps, ?_, by simp [PyData.canLayAll0, c1, c2], by simp [PyData.depthAll]; omega, by simp [l2]⟩
        simp only [List.map_cons]
        rw [e1]
        unfold optAll
        rw [e2]
    obtain ⟨ps, e, c, dp, l⟩ := all xs t.2
    refine ⟨.tuple ps, ?_, c, by simp [PyData.depth]; omega, fun _ z => (nomatch z), fun _ _ => by simp [PyData.eqv], fun _ z => by cases z; exact ⟨ps, rfl, l⟩⟩
    show (match optAll (xs.map (toPy k h)) with | some ys => some (PyData.tuple ys) | none => none) = _
    rw [e]
  | n + 1, k + 1, .ref r, t, hk => by
    obtain ⟨ne, xs, ea, hl, ha⟩ := t
    have all : ∀ ys : List D, (∀ y ∈ ys, Tm u b h n y) → ∃ ps, optAll (ys.map (toPy k h)) = some ps ∧ PyData.canLayAll0 ps = true ∧ PyData.depthAll ps ≤ n := by
      intro ys
      induction ys with
      | nil => exact fun _ => ⟨[], rfl, rfl, by simp [PyData.depthAll]⟩
      | cons y ys ih =>
        intro hy
        obtain ⟨p, e1, c1, d1, -, -, -⟩ := toPy_tm n k y (hy y (List.mem_cons_self ..)) (by omega)
        obtain ⟨ps, e2, c2, d2⟩ := ih fun z hz => hy z (List.mem_cons_of_mem _ hz)
        refine ⟨p :: ps, ?_, by simp [PyData.canLayAll0, c1, c2], by simp [PyData.depthAll]; omega⟩
        simp only [List.map_cons]
        rw [e1]
        unfold optAll
        rw [e2]
    obtain ⟨ps, e, c, dp⟩ := all xs ha
    refine ⟨.list ps, ?_, c, by simp [PyData.depth]; omega, fun _ z => (nomatch z), fun _ _ => by simp [PyData.eqv], (fun _ z => nomatch z)⟩
    show (match anyAt h r with | some xs => (match optAll (xs.map (toPy k h)) with | some ys => some (PyData.list ys) | none => none) | none => none) = _
    rw [ea]
    dsimp only
    rw [e]
def isS (t : Str) : D → Bool
  | .str s => decide (s = t)
  | _ => false
theorem eqv_isS {p : PyData} {t : Str} (h1 : ∀ s, d = .str s → p = .str s) (h2 : (∀ s, d ≠ .str s) → ∀ t, PyData.eqv p (.str t) = false) : PyData.eqv p (.str t) = isS t d := by
  cases d with
  | str s =>
    rw [h1 s rfl]
    unfold isS
    rw [Bool.eq_iff_iff]
    simp [PyData.eqv]
  | _ => exact h2 (fun s z => nomatch z) t
theorem shaped_of {p : PyData} (c : p.canLay0 = true) (dp : p.depth ≤ 20) : SeqAt.shaped p = true := by
  simp [SeqAt.shaped, c]
  omega
theorem eq_str {t : Str} (hn : n ≤ 20) (tm : Tm u b h n d) (ok : (PyData.str t).canLay0 = true) : eqD d (.str t) h = .ok (.bl (isS t d)) h := by
  obtain ⟨p, e, c, dp, h1, h2, _⟩ := toPy_tm n 70 d tm (by omega)
  have e2 : eqO h d (.str t) = some (isS t d) := by
    unfold eqO
    rw [e, show toPy 70 h (.str t) = some (.str t) from rfl]
    dsimp only
    rw [shaped_of c (by omega), shaped_of (p := .str t) ok (by simp [PyData.depth])]
    simp only [Bool.and_self, if_true]
    rw [eqv_isS h1 h2]
  unfold eqD
  rw [e2]
theorem ne_str {t : Str} (hn : n ≤ 20) (tm : Tm u b h n d) (ok : (PyData.str t).canLay0 = true) : neD d (.str t) h = .ok (.bl (!isS t d)) h := by
  have e := eq_str hn tm ok
  unfold eqD at e
  unfold neD
  cases eo : eqO h d (.str t) with
  | none => rw [eo] at e; cases e
  | some c => rw [eo] at e; injection e with e; injection e with e; rw [e]
theorem ne_nil {xs : List D} (hn : n ≤ 20) (tm : Tm u b h n (.tup xs)) : neD (.tup xs) (.tup []) h = .ok (.bl (!xs.isEmpty)) h := by
  obtain ⟨p, e, c, dp, _, _, h3⟩ := toPy_tm n 70 _ tm (by omega)
  obtain ⟨ps, rfl, l⟩ := h3 xs rfl
  have e2 : eqO h (.tup xs) (.tup []) = some xs.isEmpty := by
    unfold eqO
    rw [e, show toPy 70 h (.tup []) = some (.tuple []) from rfl]
    dsimp only
    rw [shaped_of c (by omega), shaped_of (p := .tuple []) rfl (by simp [PyData.depth, PyData.depthAll])]
    simp only [Bool.and_self, if_true]
    congr 1
    cases ps with
    | nil => cases xs with
      | nil => simp [PyData.eqv, PyData.eqvAll]
      | cons x xs => simp at l
    | cons p ps => cases xs with
      | nil => simp at l
      | cons x xs => simp [PyData.eqv, PyData.eqvAll]
  unfold neD
  rw [e2]
theorem in_strs {ts : List Str} (hn : n ≤ 20) (tm : Tm u b h n d) (ok : (∀ t ∈ ts, (PyData.str t).canLay0 = true)) : inD d (.tup (ts.map D.str)) h = .ok (.bl (ts.any fun t => isS t d)) h := by
  obtain ⟨p, e, c, dp, h1, h2, _⟩ := toPy_tm n 70 d tm (by omega)
  have oa : ∀ ts : List Str, optAll ((ts.map D.str).map (toPy 69 h)) = some (ts.map PyData.str) := fun ts => by
    induction ts with
    | nil => rfl
    | cons t ts ih =>
      simp only [List.map_cons]
      rw [show toPy 69 h (.str t) = some (.str t) from rfl]
      unfold optAll
      rw [ih]
  have sh : ∀ ts : List Str, (∀ t ∈ ts, (PyData.str t).canLay0 = true) → PyData.canLayAll0 (ts.map PyData.str) = true ∧ PyData.depthAll (ts.map PyData.str) ≤ 0 := fun ts => by
    induction ts with
    | nil => exact fun _ => ⟨rfl, by simp [PyData.depthAll]⟩
    | cons t ts ih =>
      intro z
      obtain ⟨i1, i2⟩ := ih fun x hx => z x (List.mem_cons_of_mem _ hx)
      refine ⟨?_, by simp [PyData.depthAll, PyData.depth]; omega⟩
      show (PyData.canLay0 (.str t) && PyData.canLayAll0 (ts.map PyData.str)) = true
      rw [z t (List.mem_cons_self ..), i1]; rfl
  have ty : toPy 70 h (.tup (ts.map D.str)) = some (.tuple (ts.map PyData.str)) := by
    show (match optAll ((ts.map D.str).map (toPy 69 h)) with | some ys => some (PyData.tuple ys) | none => none) = _
    rw [oa]
  obtain ⟨s1, s2⟩ := sh ts ok
  have es : seqPy h (.tup (ts.map D.str)) = some (ts.map PyData.str) := by
    unfold seqPy
    rw [ty]
    dsimp only
    rw [shaped_of (p := .tuple (ts.map PyData.str)) s1 (by simp [PyData.depth]; omega)]
    rfl
  have ei : inO h d (.tup (ts.map D.str)) = some (ts.any fun t => isS t d) := by
    unfold inO
    rw [es, e]
    dsimp only
    rw [shaped_of c (by omega)]
    simp only [if_true]
    congr 1
    rw [List.any_map]
    congr 1
    funext t
    have := eqv_isS (t := t) h1 h2
    rw [← this]
    show PyData.eqv (.str t) p = PyData.eqv p (.str t)
    cases p <;> simp [PyData.eqv]
    first | exact BEq.comm | exact Bool.beq_comm | (rw [Bool.eq_iff_iff]; simp; exact eq_comm)
  unfold inD
  rw [ei]
end
end K11
namespace K11
open PySem PySem.Spec L2 Ml
/-! ### the judges' small parts, of any value -/
abbrev wI : Str := PySem.Str.ofString "image"
theorem wImg : (PyData.str wI).canLay0 = true := by kernel_rfl
def isI : D → Bool
  | .int _ => true
  | _ => false
def intK : D → Bool
  | .int _ => true
  | .bl _ => true
  | _ => false
def boolK : D → Bool
  | .bl _ => true
  | _ => false
def strK : D → Bool
  | .str _ => true
  | _ => false
def isT1 : D → Bool
  | .tup _ => true
  | _ => false
def cntB (l : Int) : D → Bool
  | .int i => decide (l ≤ i)
  | _ => false
def belB (m : Int) : D → Bool
  | .int i => decide (0 ≤ i) && decide (i < m)
  | _ => false
def tupB (k : Nat) : D → Bool
  | .tup xs => decide (xs.length = k)
  | _ => false
def imgB : D → Bool
  | .tup [a, b] => isS wI a && cntB 0 b
  | _ => false
def lkB : D → Bool
  | .tup [p, a, im, e] => belB 2 p && (cntB 1 a && (imgB im && cntB 0 e))
  | _ => false
theorem belB_int {m i : Int} : belB m (.int i) = (decide (0 ≤ i) && decide (i < m)) := rfl
theorem imgB_two {a b : D} : imgB (.tup [a, b]) = (isS wI a && cntB 0 b) := rfl
theorem lkB_four {p a im e : D} : lkB (.tup [p, a, im, e]) = (belB 2 p && (cntB 1 a && (imgB im && cntB 0 e))) := rfl
theorem eq_of {r : R D} {x : D} {h : Sto} (w : wp r fun d h' => d = x ∧ h' = h) : r = .ok x h := by
  obtain ⟨d, h', e, rfl, rfl⟩ := wp_of w
  exact e
theorem tup2 {d : D} : (∃ a b, d = .tup [a, b]) ∨ (tupB 2 d = false ∧ imgB d = false) := by
  cases d with
  | tup xs =>
    match xs with
    | [] => exact .inr ⟨rfl, rfl⟩
    | [_] => exact .inr ⟨rfl, rfl⟩
    | [a, b] => exact .inl ⟨a, b, rfl⟩
    | _ :: _ :: _ :: r => exact .inr ⟨by simp [tupB], rfl⟩
  | _ => exact .inr ⟨rfl, rfl⟩
theorem tup4 {d : D} : (∃ a b c e, d = .tup [a, b, c, e]) ∨ (tupB 4 d = false ∧ lkB d = false) := by
  cases d with
  | tup xs =>
    match xs with
    | [] => exact .inr ⟨rfl, rfl⟩
    | [_] => exact .inr ⟨rfl, rfl⟩
    | [_, _] => exact .inr ⟨rfl, rfl⟩
    | [_, _, _] => exact .inr ⟨rfl, rfl⟩
    | [a, b, c, e] => exact .inl ⟨a, b, c, e, rfl⟩
    | _ :: _ :: _ :: _ :: _ :: r => exact .inr ⟨by simp [tupB], rfl⟩
  | _ => exact .inr ⟨rfl, rfl⟩
section
variable {h : Sto} {Q : D → Sto → Prop} {u b n : Nat} {d : D} {l m : Int}
theorem isF_int (t : Tm u b h n d) : isF [d, .ty .int] h = .ok (.bl (intK d)) h := by
  cases d with
  | ref r => obtain ⟨xs, e⟩ := tm_ref t; simp [isF, isT, e, intK, boolK, strK]
  | ty x => exact absurd t tm_ty
  | _ => rfl
theorem isF_bool (t : Tm u b h n d) : isF [d, .ty .bool] h = .ok (.bl (boolK d)) h := by
  cases d with
  | ref r => obtain ⟨xs, e⟩ := tm_ref t; simp [isF, isT, e, intK, boolK, strK]
  | ty x => exact absurd t tm_ty
  | _ => rfl
theorem isF_tup (t : Tm u b h n d) : isF [d, .ty .tuple] h = .ok (.bl (isT1 d)) h := by
  cases d with
  | ref r => obtain ⟨xs, e⟩ := tm_ref t; simp [isF, isT, e, isT1]
  | ty x => exact absurd t tm_ty
  | _ => rfl
theorem isF_str (t : Tm u b h n d) : isF [d, .ty .str] h = .ok (.bl (strK d)) h := by
  cases d with
  | ref r => obtain ⟨xs, e⟩ := tm_ref t; simp [isF, isT, e, intK, boolK, strK]
  | ty x => exact absurd t tm_ty
  | _ => rfl
theorem number_eq (t : Tm u b h n d) : g_is_number [d] h = .ok (.bl (isI d)) h := by
  refine eq_of ?_
  unfold g_is_number
  refine wp_run ?_
  unfold b_is_number
  simp only [wo_ret, wp_and, wp_call, wp_cons, wp_var, wp_c, wp_nil]
  refine ⟨_, rfl, ?_⟩
  rw [isF_int t, wp_ok]
  refine ⟨_, rfl, ?_⟩
  cases d with
  | int i =>
    rw [show intK (D.int i) = true from rfl, if_pos rfl, wp_not]
    simp only [wp_call, wp_cons, wp_var, wp_c, wp_nil]
    refine ⟨_, rfl, ?_⟩
    rw [isF_bool t, wp_ok]
    exact ⟨_, rfl, rfl, rfl⟩
  | bl i =>
    rw [show intK (D.bl i) = true from rfl, if_pos rfl, wp_not]
    simp only [wp_call, wp_cons, wp_var, wp_c, wp_nil]
    refine ⟨_, rfl, ?_⟩
    rw [isF_bool t, wp_ok]
    exact ⟨_, rfl, rfl, rfl⟩
  | _ => exact ⟨rfl, rfl⟩
theorem from_eq (t : Tm u b h n d) : g_is_from [d, .int l] h = .ok (.bl (cntB l d)) h := by
  refine eq_of ?_
  unfold g_is_from
  refine wp_run ?_
  unfold b_is_from
  simp only [wo_ret, wp_and, wp_fn, wp_cons, wp_var, wp_nil]
  refine ⟨_, rfl, rfl, ?_⟩
  rw [number_eq t, wp_ok]
  refine ⟨_, rfl, ?_⟩
  cases d with
  | int i =>
    rw [show isI (.int i) = true from rfl, if_pos rfl]
    simp only [wp_bin, wp_var]
    exact ⟨_, rfl, _, rfl, wp_ge.2 ⟨rfl, rfl⟩⟩
  | _ => exact ⟨rfl, rfl⟩
theorem below_eq (t : Tm u b h n d) : g_is_below [d, .int m] h = .ok (.bl (belB m d)) h := by
  refine eq_of ?_
  unfold g_is_below
  refine wp_run ?_
  unfold b_is_below
  simp only [wo_ret, wp_and, wp_fn, wp_cons, wp_var, wp_c, wp_nil]
  refine ⟨_, rfl, rfl, ?_⟩
  rw [from_eq t, wp_ok]
  refine ⟨_, rfl, ?_⟩
  cases d with
  | int i =>
    by_cases c : 0 ≤ i
    · rw [show cntB 0 (.int i) = true from decide_eq_true c, if_pos rfl]
      simp only [wp_bin, wp_var]
      refine ⟨_, rfl, _, rfl, wp_lt.2 ⟨?_, rfl⟩⟩
      rw [belB_int, decide_eq_true c]; rfl
    · rw [show cntB 0 (.int i) = false from decide_eq_false c, if_neg (by decide)]
      refine ⟨?_, rfl⟩
      rw [belB_int, decide_eq_false c]; rfl
  | _ => exact ⟨rfl, rfl⟩
theorem tuple_eq {k : Nat} (t : Tm u b h n d) : g_is_tuple_of [d, .int (k : Nat)] h = .ok (.bl (tupB k d)) h := by
  refine eq_of ?_
  unfold g_is_tuple_of
  refine wp_run ?_
  unfold b_is_tuple_of
  simp only [wo_ret, wp_and, wp_call, wp_cons, wp_var, wp_c, wp_nil]
  refine ⟨_, rfl, ?_⟩
  rw [isF_tup t, wp_ok]
  refine ⟨_, rfl, ?_⟩
  cases d with
  | tup xs =>
    rw [show isT1 (.tup xs) = true from rfl, if_pos rfl]
    simp only [wp_bin, wp_call, wp_cons, wp_var, wp_nil]
    refine ⟨_, rfl, ?_⟩
    rw [wp_lenT]
    refine ⟨_, rfl, wp_eqI.2 ⟨?_, rfl⟩⟩
    unfold tupB
    congr 1
    rw [decide_eq_decide]
    omega
  | _ => exact ⟨rfl, rfl⟩
theorem tuple_eq2 (t : Tm u b h n d) : g_is_tuple_of [d, .int 2] h = .ok (.bl (tupB 2 d)) h := tuple_eq (k := 2) t
theorem tuple_eq3 (t : Tm u b h n d) : g_is_tuple_of [d, .int 3] h = .ok (.bl (tupB 3 d)) h := tuple_eq (k := 3) t
theorem tuple_eq4 (t : Tm u b h n d) : g_is_tuple_of [d, .int 4] h = .ok (.bl (tupB 4 d)) h := tuple_eq (k := 4) t
theorem tuple_eq5 (t : Tm u b h n d) : g_is_tuple_of [d, .int 5] h = .ok (.bl (tupB 5 d)) h := tuple_eq (k := 5) t
theorem ix_0 {x : D} {xs : List D} : ixD (.tup (x :: xs)) (.int 0) h = .ok x h := by simp [ixD, at0]
theorem ix_1 {x y : D} {xs : List D} : ixD (.tup (x :: y :: xs)) (.int 1) h = .ok y h := by simp [ixD, at1]
theorem ix_2 {x y z : D} {xs : List D} : ixD (.tup (x :: y :: z :: xs)) (.int 2) h = .ok z h := by simp [ixD, at2]
theorem ix_3 {x y z w : D} {xs : List D} : ixD (.tup (x :: y :: z :: w :: xs)) (.int 3) h = .ok w h := by simp [ixD, at3]
theorem image_eq (hn : n ≤ 20) (t : Tm u b h n d) : g_is_image [d] h = .ok (.bl (imgB d)) h := by
  refine eq_of ?_
  unfold g_is_image
  refine wp_run ?_
  unfold b_is_image
  simp only [wo_ret, wp_and, wp_fn, wp_cons, wp_var, wp_c, wp_nil]
  refine ⟨_, rfl, rfl, ?_⟩
  rw [tuple_eq2 t, wp_ok]
  refine ⟨_, rfl, ?_⟩
  rcases tup2 (d := d) with ⟨x, y, rfl⟩ | ⟨e1, e2⟩
  · have tx := tm_in t x (by simp)
    have ty := tm_in t y (by simp)
    rw [show tupB 2 (.tup [x, y]) = true from rfl, if_pos rfl]
    simp only [wp_bin, wp_var, wp_c]
    refine ⟨_, rfl, ?_⟩
    rw [ix_0, wp_ok, eq_str hn tx wImg, wp_ok]
    refine ⟨_, rfl, ?_⟩
    show if isS wI x = true then _ else _
    cases c : isS wI x with
    | true =>
      rw [if_pos rfl]
      refine ⟨_, rfl, ?_⟩
      rw [ix_1, wp_ok]
      refine ⟨rfl, ?_⟩
      rw [from_eq ty, wp_ok]
      exact ⟨by rw [imgB_two, c]; rfl, rfl⟩
    | false =>
      rw [if_neg (by decide)]
      exact ⟨by rw [imgB_two, c]; rfl, rfl⟩
  · rw [e1, if_neg (by decide), e2]
    exact ⟨rfl, rfl⟩
theorem lock_eq (hn : n ≤ 20) (t : Tm u b h n d) : g_is_lock [d] h = .ok (.bl (lkB d)) h := by
  refine eq_of ?_
  unfold g_is_lock
  refine wp_run ?_
  unfold b_is_lock
  rw [wo_seqS, wo_ifS]
  simp only [wp_notT, wp_tru, wp_fn, wp_cons, wp_var, wp_c, wp_nil]
  refine ⟨_, rfl, rfl, ?_⟩
  rw [tuple_eq4 t, wp_ok]
  refine ⟨_, rfl, ?_⟩
  rcases tup4 (d := d) with ⟨p, a, im, e, rfl⟩ | ⟨e1, e2⟩
  · have tp := tm_in t p (by simp)
    have ta := tm_in t a (by simp)
    have ti := tm_in t im (by simp)
    have te := tm_in t e (by simp)
    rw [show tupB 4 (.tup [p, a, im, e]) = true from rfl, if_neg (by decide), wo_nxS, wo_seqS, wo_unp]
    simp only [wp_var]
    refine ⟨_, rfl, _, rfl, ?_⟩
    simp only [wo_ret, wp_and, wp_fn, wp_cons, wp_var, wp_c, wp_nil]
    refine ⟨_, rfl, rfl, ?_⟩
    rw [below_eq tp, wp_ok]
    refine ⟨_, rfl, ?_⟩
    rw [lkB_four]
    cases belB 2 p with
    | false => rw [if_neg (by decide)]; exact ⟨rfl, rfl⟩
    | true =>
      rw [if_pos rfl]
      refine ⟨_, rfl, rfl, ?_⟩
      rw [from_eq ta, wp_ok]
      refine ⟨_, rfl, ?_⟩
      cases cntB 1 a with
      | false => rw [if_neg (by decide)]; exact ⟨rfl, rfl⟩
      | true =>
        rw [if_pos rfl]
        refine ⟨_, rfl, rfl, ?_⟩
        rw [image_eq hn ti, wp_ok]
        refine ⟨_, rfl, ?_⟩
        cases imgB im with
        | false => rw [if_neg (by decide)]; exact ⟨rfl, rfl⟩
        | true =>
          rw [if_pos rfl]
          refine ⟨_, rfl, rfl, ?_⟩
          rw [from_eq te, wp_ok]
          exact ⟨rfl, rfl⟩
  · rw [e1, if_pos (by decide), wo_ret, wp_c, e2]
    exact ⟨rfl, rfl⟩
/-! the law's own -/
theorem count_eq (t : Tm u b h n d) : g__law_is_count [d] h = .ok (.bl (cntB 0 d)) h := by
  refine eq_of ?_
  unfold g__law_is_count
  refine wp_run ?_
  unfold b__law_is_count
  simp only [wo_ret, wp_and, wp_call, wp_cons, wp_var, wp_c, wp_nil]
  refine ⟨_, rfl, ?_⟩
  rw [isF_int t, wp_ok]
  refine ⟨_, rfl, ?_⟩
  cases d with
  | int i =>
    rw [show intK (D.int i) = true from rfl, if_pos rfl, wp_not]
    simp only [wp_call, wp_cons, wp_var, wp_c, wp_nil]
    refine ⟨_, rfl, ?_⟩
    rw [isF_bool t, wp_ok]
    refine ⟨_, rfl, _, rfl, ?_⟩
    rw [show boolK (D.int i) = false from rfl, if_pos (by decide)]
    simp only [wp_bin, wp_var, wp_c]
    exact ⟨_, rfl, wp_ge.2 ⟨rfl, rfl⟩⟩
  | bl i =>
    rw [show intK (D.bl i) = true from rfl, if_pos rfl, wp_not]
    simp only [wp_call, wp_cons, wp_var, wp_c, wp_nil]
    refine ⟨_, rfl, ?_⟩
    rw [isF_bool t, wp_ok]
    refine ⟨_, rfl, _, rfl, ?_⟩
    rw [if_neg (by simp [boolK])]
    exact ⟨rfl, rfl⟩
  | _ => exact ⟨rfl, rfl⟩
theorem limage_eq (hn : n ≤ 20) (t : Tm u b h n d) : g__law_is_image [d] h = .ok (.bl (imgB d)) h := by
  refine eq_of ?_
  unfold g__law_is_image
  refine wp_run ?_
  unfold b__law_is_image
  simp only [wo_ret, wp_and, wp_call, wp_cons, wp_var, wp_c, wp_nil]
  refine ⟨_, rfl, ?_⟩
  rw [isF_tup t, wp_ok]
  refine ⟨_, rfl, ?_⟩
  rcases tup2 (d := d) with ⟨x, y, rfl⟩ | ⟨e1, e2⟩
  · have tx := tm_in t x (by simp)
    have ty := tm_in t y (by simp)
    rw [show isT1 (.tup [x, y]) = true from rfl, if_pos rfl]
    simp only [wp_and, wp_bin, wp_call, wp_cons, wp_var, wp_c, wp_nil]
    refine ⟨_, rfl, ?_⟩
    rw [wp_lenT, wp_eqI]
    refine ⟨_, rfl, ?_⟩
    rw [show decide ((([x, y].length : Nat) : Int) = 2) = true from rfl, if_pos rfl]
    refine ⟨_, rfl, ?_⟩
    rw [ix_0, wp_ok, isF_str tx, wp_ok]
    refine ⟨_, rfl, ?_⟩
    cases x with
    | str s =>
      rw [show strK (D.str s) = true from rfl, if_pos rfl]
      refine ⟨_, rfl, ?_⟩
      rw [ix_0, wp_ok, eq_str hn tx wImg, wp_ok]
      refine ⟨_, rfl, ?_⟩
      cases c : isS wI (.str s) with
      | true =>
        rw [if_pos rfl]
        simp only [wp_fn, wp_cons, wp_bin, wp_var, wp_c, wp_nil]
        refine ⟨_, rfl, ?_⟩
        rw [ix_1, wp_ok]
        refine ⟨rfl, ?_⟩
        rw [count_eq ty, wp_ok]
        exact ⟨by rw [imgB_two, c]; rfl, rfl⟩
      | false =>
        rw [if_neg (by decide)]
        exact ⟨by rw [imgB_two, c]; rfl, rfl⟩
    | _ => exact ⟨rfl, rfl⟩
  · rw [e2]
    cases d with
    | tup xs =>
      rw [show isT1 (.tup xs) = true from rfl, if_pos rfl]
      simp only [wp_and, wp_bin, wp_call, wp_cons, wp_var, wp_c, wp_nil]
      refine ⟨_, rfl, ?_⟩
      rw [wp_lenT, wp_eqI]
      refine ⟨_, rfl, ?_⟩
      have e3 : ¬ xs.length = 2 := of_decide_eq_false e1
      rw [decide_eq_false (by omega), if_neg (by decide)]
      exact ⟨rfl, rfl⟩
    | _ => exact ⟨rfl, rfl⟩
end
end K11
namespace K11
open PySem PySem.Spec L2 Ml
theorem fold_le : ∀ (ns acc : List Int), (ns.foldl PyProof.Rows.step_dedup acc).length ≤ acc.length + ns.length
  | [], acc => by simp
  | n :: ns, acc => by
    rw [List.foldl_cons]
    have := fold_le ns (PyProof.Rows.step_dedup acc n)
    have h2 : (PyProof.Rows.step_dedup acc n).length ≤ acc.length + 1 := by
      unfold PyProof.Rows.step_dedup; split <;> simp
    simp only [List.length_cons]; omega
theorem fold_eq : ∀ (ns acc : List Int), (ns.foldl PyProof.Rows.step_dedup acc).length = acc.length + ns.length → (∀ n ∈ ns, n ∉ acc) ∧ ns.Nodup
  | [], acc, _ => by simp
  | n :: ns, acc, e => by
    rw [List.foldl_cons] at e
    by_cases c : acc.any (· == n) = true
    · have s : PyProof.Rows.step_dedup acc n = acc := by unfold PyProof.Rows.step_dedup; rw [if_pos c]
      rw [s] at e
      have := fold_le ns acc
      simp only [List.length_cons] at e; omega
    · have s : PyProof.Rows.step_dedup acc n = acc ++ [n] := by unfold PyProof.Rows.step_dedup; rw [if_neg c]
      rw [s] at e
      obtain ⟨h1, h2⟩ := fold_eq ns (acc ++ [n]) (by simp at e ⊢; omega)
      have hn : n ∉ acc := fun z => c (by simp; exact z)
      refine ⟨fun m hm => ?_, List.nodup_cons.mpr ⟨fun z => (h1 n z) (by simp), h2⟩⟩
      rcases List.mem_cons.mp hm with rfl | hm
      · exact hn
      · exact fun z => h1 m hm (List.mem_append_left _ z)
theorem dedup_iff {ns : List Int} : (dedup ns).length = ns.length ↔ ns.Nodup := by
  constructor
  · intro e; exact (fold_eq ns [] (by simpa [dedup] using e)).2
  · intro e; rw [dedup_nodup e]
structure Lk where
  p : Int
  a : Int
  s : Int
  e : Int
abbrev Lk.d (x : Lk) : D := lkD x.p x.a x.s x.e
structure GL (x : Lk) : Prop where
  p : x.p = 0 ∨ x.p = 1
  a : 1 ≤ x.a
  s : 0 ≤ x.s
  e : 0 ≤ x.e
structure Ch where
  p0 : Int
  p1 : Int
  c0 : Int
  c1 : Int
abbrev Ch.d (c : Ch) : D := .tup [.int c.p0, .int c.p1, .int c.c0, .int c.c1]
abbrev netD (N : List Ch) : D := .tup (N.map Ch.d)
abbrev net2 : List Ch := [⟨0, 1, 10, 5⟩, ⟨1, 2, 8, 0⟩]
theorem wordI : wI ∈ words := by decide +kernel
theorem flat_lk {x : Lk} : flat 3 x.d = true := by
  simp [flat]
  exact wordI
theorem flat_map {α : Type} {f : α → D} {n : Nat} {xs : List α} (hl : xs.length ≤ 1000) (hf : ∀ x ∈ xs, flat n (f x) = true) : flat (n + 1) (.tup (xs.map f)) = true := by
  show (decide ((xs.map f).length ≤ 1000) && (xs.map f).all (flat n)) = true
  simp [hl]
  exact hf
theorem allInt_id (ns : List Int) : allInt (ns.map D.int) = some ns := by
  have := allInt_map (f := fun x : Int => x) ns
  simpa using this
theorem any_bls (bs : List Bool) : allBl (bs.map D.bl) = some bs := by
  induction bs with
  | nil => rfl
  | cons b bs ih => simp [allBl, ih]
/-! ### what is right about a sheet -/
def secI : D → Int
  | .tup [_, _, .tup [_, .int s], _] => s
  | _ => 0
def amI : D → Int
  | .tup [_, .int a, _, _] => a
  | _ => 0
def lksB : D → Bool
  | .tup xs => xs.all lkB && decide ((xs.map secI).Nodup)
  | _ => false
def nearI (c : Int) : Int := if c = 0 then 10 else 8
def farI (c : Int) : Int := if c = 0 then 5 else 0
def restB (c n s0 s1 : Int) (ls : List D) : Bool := if n = 0 then decide (s0 = nearI c) && (decide (s1 = farI c) && ls.isEmpty) else decide (s0 + s1 + (ls.map amI).sum = nearI c + farI c)
def twoB : D → Bool
  | .tup [a, b] => cntB 0 a && cntB 0 b
  | _ => false
def rest4 : D → D → D → D → Bool
  | .int c, .int n, .tup [.int s0, .int s1], .tup ls => restB c n s0 s1 ls
  | _, _, _, _ => false
def shB : D → Bool
  | .tup [c, n, s, l] => belB 2 c && (cntB 0 n && (twoB s && (lksB l && rest4 c n s l)))
  | _ => false
theorem shB_four {c n s l : D} : shB (.tup [c, n, s, l]) = (belB 2 c && (cntB 0 n && (twoB s && (lksB l && rest4 c n s l)))) := rfl
theorem twoB_two {a b : D} : twoB (.tup [a, b]) = (cntB 0 a && cntB 0 b) := rfl
theorem tupX {d : D} : (∃ xs, d = .tup xs) ∨ (isT1 d = false ∧ lksB d = false) := by
  cases d with
  | tup xs => exact .inl ⟨xs, rfl⟩
  | _ => exact .inr ⟨rfl, rfl⟩
theorem lksB_tup {xs : List D} : lksB (.tup xs) = (xs.all lkB && decide ((xs.map secI).Nodup)) := rfl
theorem bel_of {c : D} (e : belB 2 c = true) : ∃ i, c = .int i ∧ (i = 0 ∨ i = 1) := by
  cases c with
  | int i =>
    rw [belB_int, Bool.and_eq_true, decide_eq_true_eq, decide_eq_true_eq] at e
    exact ⟨i, rfl, by omega⟩
  | _ => cases e
theorem cnt_of {l : Int} {c : D} (e : cntB l c = true) : ∃ i, c = .int i ∧ l ≤ i := by
  cases c with
  | int i => exact ⟨i, rfl, of_decide_eq_true e⟩
  | _ => cases e
theorem isS_of {t : Str} {d : D} (e : isS t d = true) : d = .str t := by
  cases d with
  | str s => rw [of_decide_eq_true e]
  | _ => cases e
theorem lk_of {d : D} (e : lkB d = true) : ∃ x : Lk, d = x.d ∧ GL x := by
  rcases tup4 (d := d) with ⟨p, a, im, en, rfl⟩ | ⟨_, e2⟩
  · rw [lkB_four, Bool.and_eq_true, Bool.and_eq_true, Bool.and_eq_true] at e
    obtain ⟨e1, e2, e3, e4⟩ := e
    obtain ⟨p, rfl, hp⟩ := bel_of e1
    obtain ⟨a, rfl, ha⟩ := cnt_of e2
    obtain ⟨en, rfl, he⟩ := cnt_of e4
    rcases tup2 (d := im) with ⟨w, s, rfl⟩ | ⟨_, z⟩
    · rw [imgB_two, Bool.and_eq_true] at e3
      obtain ⟨s, rfl, hs⟩ := cnt_of e3.2
      rw [isS_of e3.1]
      exact ⟨⟨p, a, s, en⟩, rfl, hp, ha, hs, he⟩
    · rw [z] at e3; cases e3
  · rw [e2] at e; cases e
theorem lks_of : ∀ {xs : List D}, xs.all lkB = true → ∃ L : List Lk, xs = L.map Lk.d ∧ ∀ x ∈ L, GL x
  | [], _ => ⟨[], rfl, fun _ z => nomatch z⟩
  | d :: xs, e => by
    rw [List.all_cons, Bool.and_eq_true] at e
    obtain ⟨x, rfl, g⟩ := lk_of e.1
    obtain ⟨L, rfl, gs⟩ := lks_of e.2
    exact ⟨x :: L, rfl, fun y hy => by
      rcases List.mem_cons.mp hy with rfl | hy
      · exact g
      · exact gs y hy⟩
theorem sec_map {L : List Lk} : (L.map Lk.d).map secI = L.map Lk.s := by rw [List.map_map]; rfl
theorem am_map {L : List Lk} : (L.map Lk.d).map amI = L.map Lk.a := by rw [List.map_map]; rfl
theorem two_of {s : D} (e : twoB s = true) : ∃ s0 s1, s = .tup [.int s0, .int s1] ∧ 0 ≤ s0 ∧ 0 ≤ s1 := by
  rcases tup2 (d := s) with ⟨a, b, rfl⟩ | ⟨z, _⟩
  · rw [twoB_two, Bool.and_eq_true] at e
    obtain ⟨a, rfl, ha⟩ := cnt_of e.1
    obtain ⟨b, rfl, hb⟩ := cnt_of e.2
    exact ⟨a, b, rfl, ha, hb⟩
  · cases s with
    | tup xs =>
      match xs, e with
      | [a, b], _ => cases z
    | _ => cases e
theorem two_no {s : D} (e : tupB 2 s = false) : twoB s = false := by
  cases s with
  | tup xs =>
    match xs with
    | [] => rfl
    | [_] => rfl
    | [a, b] => cases e
    | _ :: _ :: _ :: r => rfl
  | _ => rfl
section
variable {h : Sto} {Q : D → Sto → Prop} {u b n m : Nat} {d : D}
theorem unlike_wp {n : Nat} {ns : List Int} (e1 : anyAt h n = some (ns.map D.int)) (hl : ns.length ≤ 4000) (q : Q (.bl (decide ns.Nodup)) h) : wp (g_are_unlike [.ref n] h) Q := by
  unfold g_are_unlike
  refine wp_run ?_
  unfold b_are_unlike
  rw [wo_ret, wp_bin]
  refine wp_lenSet ⟨.ref n, h, rfl, n, _, ns, rfl, e1, allInt_id ns, hl, ?_⟩
  refine ⟨.int (ns.map D.int).length, h, by simp [mCall, mCons, mVar, mNil, R.bind, lenF, e1], ?_⟩
  show wp (eqD _ _ h) Q
  rw [wp_eqI]
  have e : (decide (((dedup ns).length : Int) = ((ns.map D.int).length : Int))) = decide ns.Nodup := by
    rw [decide_eq_decide, List.length_map, ← dedup_iff]; omega
  rw [e]
  exact q
theorem are_locks_any (hn : n ≤ 20) (hb : b ≤ 100) (t : Tm u b h n d) (q : ∀ h', Fx h h' → Q (.bl (lksB d)) h') : wp (g__are_locks [d] h) Q := by
  unfold g__are_locks
  refine wp_run ?_
  unfold b__are_locks
  rw [wo_seqS, wo_ifS]
  simp only [wp_orT, wp_notT, wp_tru, wp_call, wp_cons, wp_var, wp_c, wp_nil]
  refine ⟨_, rfl, ?_⟩
  rw [isF_tup t, wp_ok]
  refine ⟨_, rfl, ?_⟩
  rcases tupX (d := d) with ⟨xs, rfl⟩ | ⟨e1, e2⟩
  · have hl := tm_len t
    rw [show isT1 (.tup xs) = true from rfl, if_neg (by decide)]
    refine wp_lcT xs (fun x => .bl (lkB x)) (by simp [mVar]) (by omega) (fun x hx h' fx => ?_) fun l2 => ?_
    · refine ⟨_, rfl, ?_⟩
      simp only [wp_fn, wp_cons, wp_var, wp_nil]
      refine ⟨_, rfl, rfl, ?_⟩
      rw [lock_eq hn (tm_fx fx (tm_in t x hx)), wp_ok]
      exact ⟨.refl, rfl⟩
    · have em : (xs.map fun x => D.bl (lkB x)) = (xs.map lkB).map D.bl := by rw [List.map_map]; rfl
      rw [em]
      refine wp_allF any_new (any_bls _) ⟨_, rfl, ?_⟩
      have ea : (xs.map lkB).all id = xs.all lkB := by rw [List.all_map]; rfl
      rw [ea]
      have f1 : Fx h (h ++ Cl.lst ((xs.map lkB).map D.bl) :: l2) := .more
      generalize h ++ Cl.lst ((xs.map lkB).map D.bl) :: l2 = g1 at f1 ⊢
      rw [lksB_tup] at q
      cases c : xs.all lkB with
      | false =>
        rw [c] at q
        rw [if_pos (by decide), wo_ret, wp_c]
        exact q _ f1
      | true =>
        rw [c] at q
        rw [if_neg (by decide), wo_nxS]
        obtain ⟨L, rfl, gs⟩ := lks_of c
        rw [sec_map] at q
        simp only [wo_ret, wp_fn, wp_cons, wp_nil]
        refine wp_lcT (L.map Lk.d) (fun y => match y with | .tup [_, _, .tup [_, s], _] => s | _ => .non) (by simp [mVar]) (by omega) (fun y hy h' fx => ?_) fun l3 => ?_
        · obtain ⟨x, hx, rfl⟩ := List.mem_map.mp hy
          refine ⟨_, rfl, ?_⟩
          simp [wipeD]
          refine ⟨_, at2, ?_⟩
          simp [ixD, at1, Fx.refl]
        · have e1 : (L.map Lk.d).map (fun y => match y with | .tup [_, _, .tup [_, s], _] => s | _ => .non) = (L.map Lk.s).map D.int := by
            rw [List.map_map, List.map_map]; rfl
          rw [e1]
          rw [List.length_map] at hl
          exact ⟨rfl, unlike_wp any_new (by simp; omega) (q _ (f1.trans .more))⟩
  · rw [e1, if_pos (by decide), if_pos trivial, wo_ret, wp_c]
    rw [e2] at q
    exact q _ .refl
theorem total_wp {c n s0 s1 : Int} {L : List Lk} (hl : L.length ≤ 100) (q : ∀ h', Fx h h' → Q (.int (s0 + s1 + (L.map Lk.a).sum)) h') : wp (g_total [.tup [.int c, .int n, .tup [.int s0, .int s1], .tup (L.map Lk.d)]] h) Q := by
  unfold g_total
  refine wp_run ?_
  unfold b_total
  simp only [wo_ret, wp_bin, wp_call, wp_cons, wp_var, wp_c, wp_nil]
  refine ⟨_, rfl, ?_⟩
  rw [ix_2, wp_ok]
  refine wp_sumT (is := [s0, s1]) rfl ?_
  refine wp_lcT (L.map Lk.d) (fun y => match y with | .tup [_, a, _, _] => a | _ => .non) (by simp [mVar, mBin, mC, R.bind, ixD, at3]) (by simp; omega) (fun y hy h' fx => ?_) fun l3 => ?_
  · obtain ⟨x, hx, rfl⟩ := List.mem_map.mp hy
    refine ⟨_, rfl, ?_⟩
    simp [wipeD, ixD, at1, Fx.refl]
  · have e1 : (L.map Lk.d).map (fun y => match y with | .tup [_, a, _, _] => a | _ => .non) = (L.map Lk.a).map D.int := by
      rw [List.map_map, List.map_map]; rfl
    rw [e1]
    refine wp_sumL any_new (allInt_id _) ?_
    rw [wp_addI]
    have := q _ (Fx.more (h := h) (l := Cl.lst ((L.map Lk.a).map D.int) :: l3))
    simpa using this
theorem at_place_wp {xs : List D} {y x : D} {c : Nat} (L : Si u (n + 1) (.tup xs) y h) (e : xs[c]? = some x) (hl : xs.length ≤ 1000) (q : ∀ z, Si u n x z h → Q z h) : wp (g_at_place [y, .int c] h) Q := by
  have hc := (List.getElem?_eq_some_iff.mp e).1
  obtain ⟨z, iz, M⟩ := si_at L e
  unfold g_at_place
  refine wp_run ?_
  unfold b_at_place
  simp only [wo_seqS, wo_ifS, wp_notT, wp_tb]
  refine wp_chain ?_
  simp [si_len L, hc, iz]
  exact q z M
theorem first_sheet_wp {N : List Ch} {ch : Ch} {y : D} {c : Nat} (L : Si u (n + 3) (netD N) y h) (e : N[c]? = some ch) (hl : N.length ≤ 1000) (q : ∀ h', Fx h h' → Q (.tup [.int (c : Nat), .int 0, .tup [.int ch.c0, .int ch.c1], .tup []]) h') : wp (g_first_sheet [y, .int (c : Nat)] h) Q := by
  unfold g_first_sheet
  refine wp_run ?_
  unfold b_first_sheet
  simp
  refine at_place_wp L (x := ch.d) (by rw [List.getElem?_map, e]; rfl) (by simpa using hl) fun z M => ?_
  have cut : cutD [D.int ch.p0, .int ch.p1, .int ch.c0, .int ch.c1] (some 2) none = [.int ch.c0, .int ch.c1] := rfl
  rcases si_ints (ns := [ch.p0, ch.p1, ch.c0, ch.c1]) M with rfl | ⟨r, rfl, hr, ea⟩
  · simp [tupF]
    rw [cut]
    exact q _ .refl
  · have ea' : anyAt h r = some [D.int ch.p0, .int ch.p1, .int ch.c0, .int ch.c1] := ea
    simp only [slD, ea', wp_ok]
    rw [cut]
    simp only [tupF, any_new, wp_ok]
    exact q _ .more
theorem flat_sht {c n s0 s1 : Int} {L : List Lk} (hl : L.length ≤ 1000) : flat 5 (.tup [.int c, .int n, .tup [.int s0, .int s1], .tup (L.map Lk.d)]) = true := by
  have h1 : flat 4 (.tup (L.map Lk.d)) = true := flat_map hl fun _ _ => flat_lk
  show (decide (4 ≤ 1000) && [D.int c, .int n, .tup [.int s0, .int s1], .tup (L.map Lk.d)].all (flat 4)) = true
  simp only [List.all_cons, List.all_nil, h1]
  rfl
theorem sheet_any {y : D} (L : Si u 3 (netD net2) y h) (hn : n ≤ 20) (hb : b ≤ 100) (t : Tm u b h n d) (q : ∀ h', Fx h h' → Q (.bl (shB d)) h') : wp (g_is_sheet [y, d] h) Q := by
  have ln : lenF [y] h = .ok (.int 2) h := si_len L
  unfold g_is_sheet
  refine wp_run ?_
  unfold b_is_sheet
  rw [wo_seqS, wo_ifS]
  simp only [wp_notT, wp_tru, wp_fn, wp_cons, wp_var, wp_c, wp_nil]
  refine ⟨_, rfl, rfl, ?_⟩
  rw [tuple_eq4 t, wp_ok]
  refine ⟨_, rfl, ?_⟩
  rcases tup4 (d := d) with ⟨c, nr, s, l, rfl⟩ | ⟨e1, _⟩
  · have tc := tm_in t c (by simp)
    have tn := tm_in t nr (by simp)
    have ts := tm_in t s (by simp)
    have tl := tm_in t l (by simp)
    rw [show tupB 4 (.tup [c, nr, s, l]) = true from rfl, if_neg (by decide), wo_nxS, wo_seqS, wo_unp]
    simp only [wp_var]
    refine ⟨_, rfl, _, rfl, ?_⟩
    rw [shB_four] at q
    rw [wo_seqS, wo_ifS]
    simp only [wp_orT, wp_notT, wp_tru, wp_fn, wp_cons, wp_call, wp_var, wp_c, wp_nil]
    refine ⟨_, rfl, _, rfl, ?_⟩
    rw [ln, wp_ok]
    refine ⟨rfl, ?_⟩
    rw [below_eq tc, wp_ok]
    refine ⟨_, rfl, ?_⟩
    cases hc : belB 2 c with
    | false =>
      rw [hc] at q
      rw [if_pos (by decide), if_pos trivial, wo_ret, wp_c]
      exact q _ .refl
    | true =>
      rw [hc, Bool.true_and] at q
      obtain ⟨c, rfl, c01⟩ := bel_of hc
      rw [if_neg (by decide)]
      refine ⟨_, rfl, rfl, ?_⟩
      rw [from_eq tn, wp_ok]
      refine ⟨_, rfl, ?_⟩
      cases hnr : cntB 0 nr with
      | false =>
        rw [hnr] at q
        rw [if_pos (by decide), wo_ret, wp_c]
        exact q _ .refl
      | true =>
        rw [hnr, Bool.true_and] at q
        obtain ⟨nr, rfl, nr0⟩ := cnt_of hnr
        rw [if_neg (by decide), wo_nxS, wo_seqS, wo_ifS]
        simp only [wp_orT, wp_notT, wp_tru, wp_fn, wp_cons, wp_bin, wp_var, wp_c, wp_nil]
        refine ⟨_, rfl, rfl, ?_⟩
        rw [tuple_eq2 ts, wp_ok]
        refine ⟨_, rfl, ?_⟩
        rcases tup2 (d := s) with ⟨a0, a1, rfl⟩ | ⟨e1, _⟩
        · have t0 := tm_in ts a0 (by simp)
          have t1 := tm_in ts a1 (by simp)
          rw [show tupB 2 (.tup [a0, a1]) = true from rfl, if_neg (by decide)]
          rw [twoB_two] at q
          refine ⟨_, rfl, ?_⟩
          rw [ix_0, wp_ok]
          refine ⟨rfl, ?_⟩
          rw [from_eq t0, wp_ok]
          refine ⟨_, rfl, ?_⟩
          cases h0 : cntB 0 a0 with
          | false =>
            rw [h0] at q
            rw [if_pos (by decide), if_pos trivial, wo_ret, wp_c]
            exact q _ .refl
          | true =>
            rw [h0, Bool.true_and] at q
            obtain ⟨s0, rfl, s00⟩ := cnt_of h0
            rw [if_neg (by decide)]
            refine ⟨_, rfl, ?_⟩
            rw [ix_1, wp_ok]
            refine ⟨rfl, ?_⟩
            rw [from_eq t1, wp_ok]
            refine ⟨_, rfl, ?_⟩
            cases h1 : cntB 0 a1 with
            | false =>
              rw [h1] at q
              rw [if_pos (by decide), if_pos trivial, wo_ret, wp_c]
              exact q _ .refl
            | true =>
              rw [h1, Bool.true_and] at q
              obtain ⟨s1, rfl, s10⟩ := cnt_of h1
              rw [if_neg (by decide)]
              refine ⟨_, rfl, rfl, are_locks_any hn hb tl fun g1 f1 => ⟨_, rfl, ?_⟩⟩
              cases hlk : lksB l with
              | false =>
                rw [hlk] at q
                rw [if_pos (by decide), wo_ret, wp_c]
                exact q _ f1
              | true =>
                rw [hlk, Bool.true_and] at q
                obtain ⟨L0, rfl, gs⟩ : ∃ L0 : List Lk, l = .tup (L0.map Lk.d) ∧ ∀ x ∈ L0, GL x := by
                  cases l with
                  | tup xs =>
                    rw [lksB_tup, Bool.and_eq_true] at hlk
                    obtain ⟨L0, rfl, gs⟩ := lks_of hlk.1
                    exact ⟨L0, rfl, gs⟩
                  | _ => cases hlk
                have ll : L0.length ≤ 100 := by have := tm_len tl; rw [List.length_map] at this; omega
                have q2 : ∀ h', Fx h h' → Q (.bl (restB c nr s0 s1 (L0.map Lk.d))) h' := q
                rw [if_neg (by decide), wo_nxS, wo_seqS, wo_ifS]
                simp only [wp_tb, wp_bin, wp_var, wp_c]
                refine ⟨_, rfl, wp_eqI.2 ⟨_, rfl, ?_⟩⟩
                obtain ⟨ch, k, ek, rfl, e0, e1⟩ : ∃ (ch : Ch) (k : Nat), net2[k]? = some ch ∧ c = (k : Nat) ∧ ch.c0 = nearI c ∧ ch.c1 = farI c := by
                  rcases c01 with rfl | rfl
                  · exact ⟨_, 0, rfl, rfl, rfl, rfl⟩
                  · exact ⟨_, 1, rfl, rfl, rfl, rfl⟩
                have L1 := si_fx f1 L
                by_cases z : nr = 0
                · subst z
                  rw [decide_eq_true rfl, if_pos rfl, wo_ret]
                  simp only [wp_bin, wp_fn, wp_cons, wp_var, wp_nil]
                  refine ⟨_, rfl, _, rfl, _, rfl, rfl, first_sheet_wp (n := 0) L1 ek (by decide) fun g2 f2 => ?_⟩
                  have fa : flat 5 (.tup [.int (k : Nat), .int 0, .tup [.int s0, .int s1], .tup (L0.map Lk.d)]) = true := flat_sht (by omega)
                  have fb : flat 5 (.tup [.int (k : Nat), .int 0, .tup [.int ch.c0, .int ch.c1], .tup []]) = true := flat_sht (L := []) (by simp)
                  rw [eqD_flat (n := 5) (by omega) fa fb, wp_ok]
                  have q3 := q2 _ (f1.trans f2)
                  have er : restB (k : Nat) 0 s0 s1 (L0.map Lk.d) = eqc (.tup [.int (k : Nat), .int 0, .tup [.int s0, .int s1], .tup (L0.map Lk.d)]) (.tup [.int (k : Nat), .int 0, .tup [.int ch.c0, .int ch.c1], .tup []]) := by
                    unfold restB
                    rw [if_pos rfl, ← e0, ← e1, Bool.eq_iff_iff, eqc_iff]
                    cases L0 <;> simp
                  rw [er] at q3
                  exact q3
                · rw [decide_eq_false z, if_neg (by decide), wo_nxS]
                  simp only [wo_ret, wp_bin, wp_fn, wp_cons, wp_var, wp_c, wp_nil]
                  refine ⟨_, rfl, rfl, total_wp (by omega) fun g2 f2 => ?_⟩
                  obtain ⟨z1, i1, M⟩ := si_at (si_fx f2 L1) (by rw [List.getElem?_map, ek]; rfl : (net2.map Ch.d)[k]? = some ch.d)
                  obtain ⟨z2, i2, M2⟩ := si_at2 M
                  obtain ⟨z3, i3, M3⟩ := si_at3 M
                  have M2 := si_int M2
                  have M3 := si_int M3
                  subst M2 M3
                  refine ⟨_, rfl, _, rfl, ?_⟩
                  rw [i1, wp_ok, i2, wp_ok]
                  refine ⟨_, rfl, _, rfl, ?_⟩
                  rw [i1, wp_ok, i3, wp_ok, wp_addI, wp_eqI]
                  have q3 := q2 _ (f1.trans f2)
                  unfold restB at q3
                  rw [if_neg z, am_map, ← e0, ← e1] at q3
                  exact q3
        · rw [two_no e1] at q
          rw [e1, if_pos (by decide), if_pos trivial, wo_ret, wp_c]
          exact q _ .refl
  · rw [e1, if_pos (by decide), wo_ret, wp_c]
    have : shB d = false := by
      cases d with
      | tup xs =>
        match xs with
        | [] => rfl
        | [_] => rfl
        | [_, _] => rfl
        | [_, _, _] => rfl
        | [_, _, _, _] => cases e1
        | _ :: _ :: _ :: _ :: _ :: r => rfl
      | _ => rfl
    rw [this] at q
    exact q _ .refl
end
end K11
namespace K11
open PySem PySem.Spec L2 Ml
theorem lk_none {d : D} (e : tupB 4 d = false) : lkB d = false := by
  rcases tup4 (d := d) with ⟨p, a, im, en, rfl⟩ | ⟨_, e2⟩
  · cases e
  · exact e2
theorem tupY {d : D} : (∃ xs, d = .tup xs) ∨ isT1 d = false := by
  cases d with
  | tup xs => exact .inl ⟨xs, rfl⟩
  | _ => exact .inr rfl
section
variable {h : Sto} {Q : D → Sto → Prop} {u b n m : Nat} {d : D} {ρ : Sl}
theorem llock_eq (hn : n ≤ 20) (t : Tm u b h n d) : g__law_is_lock [d] h = .ok (.bl (lkB d)) h := by
  refine eq_of ?_
  unfold g__law_is_lock
  refine wp_run ?_
  unfold b__law_is_lock
  rw [wo_seqS, wo_ifS]
  simp only [wp_orT, wp_notT, wp_tru, wp_tb, wp_bin, wp_fn, wp_call, wp_cons, wp_var, wp_c, wp_nil]
  refine ⟨_, rfl, ?_⟩
  rw [isF_tup t, wp_ok]
  refine ⟨_, rfl, ?_⟩
  rcases tupY (d := d) with ⟨xs, rfl⟩ | e1
  · rw [show isT1 (.tup xs) = true from rfl, if_neg (by decide)]
    refine ⟨_, rfl, ?_⟩
    rw [wp_lenT, wp_neI]
    refine ⟨_, rfl, ?_⟩
    rcases tup4 (d := .tup xs) with ⟨p, a, im, e, ex⟩ | ⟨e1, e2⟩
    · cases ex
      have tp := tm_in t p (by simp)
      have ta := tm_in t a (by simp)
      have ti := tm_in t im (by simp)
      have te := tm_in t e (by simp)
      rw [lkB_four]
      rw [if_neg (by simp)]
      refine ⟨_, rfl, ?_⟩
      rw [ix_2, wp_ok]
      refine ⟨rfl, ?_⟩
      rw [limage_eq hn ti, wp_ok]
      refine ⟨_, rfl, ?_⟩
      cases hi : imgB im with
      | false =>
        rw [if_pos (by decide), wo_ret, wp_c]
        exact ⟨by simp, rfl⟩
      | true =>
        rw [if_neg (by decide), wo_nxS, wo_seqS, wo_ifS]
        simp only [wp_orT, wp_notT, wp_tru, wp_tb, wp_bin, wp_fn, wp_call, wp_cons, wp_var, wp_c, wp_nil]
        refine ⟨_, rfl, ?_⟩
        rw [ix_0, wp_ok]
        refine ⟨rfl, ?_⟩
        rw [count_eq tp, wp_ok]
        refine ⟨_, rfl, ?_⟩
        cases hp : cntB 0 p with
        | false =>
          have : belB 2 p = false := by
            cases p with
            | int i => rw [belB_int, show decide (0 ≤ i) = false from hp]; rfl
            | _ => rfl
          rw [if_pos (by decide), if_pos trivial, wo_ret, wp_c, this]
          exact ⟨rfl, rfl⟩
        | true =>
          obtain ⟨p, rfl, p0⟩ := cnt_of hp
          rw [if_neg (by decide)]
          refine ⟨_, rfl, ?_⟩
          rw [ix_1, wp_ok]
          refine ⟨rfl, ?_⟩
          rw [count_eq ta, wp_ok]
          refine ⟨_, rfl, ?_⟩
          cases ha : cntB 0 a with
          | false =>
            have : cntB 1 a = false := by
              cases a with
              | int i =>
                have : ¬ 0 ≤ i := of_decide_eq_false ha
                exact decide_eq_false (by omega)
              | _ => rfl
            rw [if_pos (by decide), if_pos trivial, wo_ret, wp_c, this]
            exact ⟨by simp, rfl⟩
          | true =>
            obtain ⟨a, rfl, a0⟩ := cnt_of ha
            rw [if_neg (by decide)]
            refine ⟨_, rfl, ?_⟩
            rw [ix_3, wp_ok]
            refine ⟨rfl, ?_⟩
            rw [count_eq te, wp_ok]
            refine ⟨_, rfl, ?_⟩
            cases he : cntB 0 e with
            | false =>
              rw [if_pos (by decide), wo_ret, wp_c]
              exact ⟨by simp, rfl⟩
            | true =>
              rw [if_neg (by decide), wo_nxS]
              simp only [wo_ret, wp_and, wp_bin, wp_var, wp_c]
              refine ⟨_, rfl, ?_⟩
              rw [ix_0, wp_ok, wp_lt]
              refine ⟨_, rfl, ?_⟩
              rw [belB_int, decide_eq_true p0]
              by_cases p2 : p < 2
              · rw [decide_eq_true p2, if_pos rfl]
                refine ⟨_, rfl, ?_⟩
                rw [ix_1, wp_ok, wp_gt]
                refine ⟨?_, rfl⟩
                show D.bl (decide (0 < a)) = D.bl (true && true && (decide (1 ≤ a) && (true && true)))
                have : decide (0 < a) = decide (1 ≤ a) := by rw [decide_eq_decide]; omega
                rw [this]
                simp
              · rw [decide_eq_false p2, if_neg (by decide)]
                exact ⟨rfl, rfl⟩
    · have e3 : ¬ xs.length = 4 := of_decide_eq_false e1
      have e4 : ¬ ((xs.length : Nat) : Int) = 4 := by omega
      rw [e2]
      rw [if_pos (by simp [e4])]
      rw [if_pos trivial, wo_ret, wp_c]
      exact ⟨rfl, rfl⟩
  · have : lkB d = false := by
      cases d with
      | tup xs => cases e1
      | _ => rfl
    rw [e1, if_pos (by decide), if_pos trivial, wo_ret, wp_c, this]
    exact ⟨rfl, rfl⟩
/-- how many are bad, beside an empty list -/
theorem fm_bad {f : D → Bool} : ∀ {xs : List D}, decide ((xs.filterMap fun x => if f x = true then none else some (D.int 1)) = []) = xs.all f
  | [] => rfl
  | x :: xs => by
    have ih := fm_bad (f := f) (xs := xs)
    rw [List.filterMap_cons, List.all_cons]
    cases f x with
    | true => simpa using ih
    | false => simp
theorem flat_ones {f : D → Bool} {xs : List D} (hl : xs.length ≤ 1000) : flat 2 (.tup (xs.filterMap fun x => if f x = true then none else some (D.int 1))) = true := by
  show (decide ((xs.filterMap fun x => if f x = true then none else some (D.int 1)).length ≤ 1000) && (xs.filterMap fun x => if f x = true then none else some (D.int 1)).all (flat 1)) = true
  have := List.length_filterMap_le (fun x => if f x = true then none else some (D.int 1)) xs
  rw [decide_eq_true (by omega), Bool.true_and, List.all_eq_true]
  intro y hy
  obtain ⟨x, _, e⟩ := List.mem_filterMap.mp hy
  split at e
  · cases e
  · cases e; rfl
theorem bads_wp {mx : ME} {T : MT} {k : Nat} {xs : List D} {f : D → Bool} (hm : mx ρ h = .ok (.tup xs) h) (hl : xs.length ≤ 1000) (ht : ∀ x ∈ xs, ∀ h', Fx h h' → T ((wipeD ρ [k]).set k (some x)) h' = .ok (!(f x)) h')
    (q : ∀ g, Fx h g → Q (.ref h.length) g → True) (K : ∀ g, Fx h g → anyAt g h.length = some (xs.filterMap fun x => if f x = true then none else some (D.int 1)) → Q (.ref h.length) g) :
    wp (mLc (mSeq mx) (.one k) T (mC (.int 1)) [k] ρ h) Q := by
  refine wp_lc ?_
  rw [wp_seq, hm, wp_ok]
  rw [show seqF (.tup xs) h = .ok (.tup xs) h from rfl, wp_ok]
  refine .mk xs (fun x => if f x = true then none else some (D.int 1)) (fun i h' fx => rfl) (by omega) (by simp [Wk.len]) (fun x hx h' fx => ?_) fun l => K _ .more any_new
  refine ⟨_, rfl, ?_⟩
  rw [ht x hx h' fx, wp_ok]
  refine ⟨.refl, fun c => ?_, fun c => ?_⟩
  · rw [wp_c]
    refine ⟨.refl, ?_⟩
    have : f x = false := by simpa using c
    rw [this]; rfl
  · have : f x = true := by simpa using c
    rw [this]; rfl
theorem bad_ne {mx : ME} {T : MT} {k : Nat} {xs : List D} {f : D → Bool} (hm : mx ρ h = .ok (.tup xs) h) (hl : xs.length ≤ 1000) (ht : ∀ x ∈ xs, ∀ h', Fx h h' → T ((wipeD ρ [k]).set k (some x)) h' = .ok (!(f x)) h')
    (q : ∀ h', Fx h h' → Q (.bl (!(xs.all f))) h') : wp (mBin neD (mLc (mSeq mx) (.one k) T (mC (.int 1)) [k]) (mLst mNil) ρ h) Q := by
  rw [wp_bin]
  refine bads_wp hm hl ht (fun _ _ _ => trivial) fun g f1 e1 => ?_
  simp only [wp_lst, wp_nil]
  refine ⟨by show 0 ≤ 16777216; decide, ?_⟩
  have := eq_nil_flat (h := g ++ [.lst []]) (n := 1) (by omega) (Fx.any .more e1) any_new (flat_ones hl)
  rw [fm_bad] at this
  unfold neD
  rw [this, wp_ok]
  exact q _ (f1.trans .more)
theorem bad_eq {mx : ME} {T : MT} {k : Nat} {xs : List D} {f : D → Bool} (hm : mx ρ h = .ok (.tup xs) h) (hl : xs.length ≤ 1000) (ht : ∀ x ∈ xs, ∀ h', Fx h h' → T ((wipeD ρ [k]).set k (some x)) h' = .ok (!(f x)) h')
    (q : ∀ h', Fx h h' → Q (.bl (xs.all f)) h') : wp (mBin eqD (mLc (mSeq mx) (.one k) T (mC (.int 1)) [k]) (mLst mNil) ρ h) Q := by
  rw [wp_bin]
  refine bads_wp hm hl ht (fun _ _ _ => trivial) fun g f1 e1 => ?_
  simp only [wp_lst, wp_nil]
  refine ⟨by show 0 ≤ 16777216; decide, ?_⟩
  have := eq_nil_flat (h := g ++ [.lst []]) (n := 1) (by omega) (Fx.any .more e1) any_new (flat_ones hl)
  rw [fm_bad] at this
  unfold eqD
  rw [this, wp_ok]
  exact q _ (f1.trans .more)
end
end K11
namespace K11
open PySem PySem.Spec L2 Ml
theorem wp_lenSetT {m : ME} {ρ : Sl} {h : Sto} {Q : D → Sto → Prop} (x : wp (m ρ h) fun d h1 => ∃ n xs ps, d = .ref n ∧ anyAt h1 n = some xs ∧ optAll (xs.map (toPy 12 h1)) = some ps ∧ ps.length ≤ 4 ∧ ps.all tupKey = true ∧ Q (.int (dedupK (ps.map Ml.keyOf)).length) h1) : wp (mLenSetT m ρ h) Q := by
  unfold mLenSetT
  rw [wp_bind]
  refine wp_mono x fun d h1 ⟨n, xs, ps, ed, e1, e2, hl, hk, q⟩ => ?_
  subst ed
  simp only [e1, e2]
  rw [if_pos ⟨hl, hk⟩, wp_ok]
  exact q
def imK (s : Int) : NestedKey := .tup [.text wI, .num s]
theorem imK_inj {a b : Int} (e : imK a = imK b) : a = b := by
  unfold imK at e
  injection e with e
  injection e with _ e
  injection e with e
  injection e with e
theorem nodup_map {α β : Type} {f : α → β} (hf : ∀ a b, f a = f b → a = b) : ∀ {l : List α}, (l.map f).Nodup ↔ l.Nodup
  | [] => by simp
  | x :: l => by
    rw [List.map_cons, List.nodup_cons, List.nodup_cons, nodup_map hf (l := l)]
    constructor
    · rintro ⟨a, b⟩
      exact ⟨fun z => a (List.mem_map_of_mem z), b⟩
    · rintro ⟨a, b⟩
      refine ⟨fun z => ?_, b⟩
      obtain ⟨y, hy, e⟩ := List.mem_map.mp z
      rw [hf _ _ e] at hy
      exact a hy
theorem ims_key {L : List Lk} : ((L.map fun x => imP x.s).map Ml.keyOf) = (L.map Lk.s).map imK := by
  rw [List.map_map, List.map_map]
  rfl
theorem ims_tup {L : List Lk} : (L.map fun x => imP x.s).all tupKey = true := by
  rw [List.all_eq_true]
  intro p hp
  obtain ⟨x, _, rfl⟩ := List.mem_map.mp hp
  rfl
theorem set_ims {L : List Lk} : decide (((dedupK ((L.map fun x => imP x.s).map Ml.keyOf)).length : Int) = ((L.length : Nat) : Int)) = decide ((L.map Lk.s).Nodup) := by
  rw [decide_eq_decide, ims_key]
  have ln : ((L.map Lk.s).map imK).length = L.length := by simp
  constructor
  · intro e
    have e2 : (dedupK ((L.map Lk.s).map imK)).length = ((L.map Lk.s).map imK).length := by omega
    exact (nodup_map fun a b => imK_inj).mp (dedupK_full e2)
  · intro nd
    rw [dedupK_id ((nodup_map fun a b => imK_inj).mpr nd), ln]
section
variable {h : Sto} {Q : D → Sto → Prop} {u b n m : Nat} {d : D} {ρ : Sl}
theorem toPy_imL : ∀ L : List Lk, optAll ((L.map fun x => imD x.s).map (toPy 12 h)) = some (L.map fun x => imP x.s)
  | [] => rfl
  | x :: L => by
    have ih := toPy_imL L
    simp only [List.map_cons]
    rw [show toPy 12 h (imD x.s) = some (imP x.s) from rfl]
    unfold optAll
    rw [ih]
theorem lsheet_any (hn : n ≤ 20) (hb : b ≤ 100) (t : Tm u b h n d) (few : ∀ c nr s ls, d = .tup [c, nr, s, .tup ls] → ls.length ≤ 4) (q : ∀ h', Fx h h' → Q (.bl (shB d)) h') : wp (g__law_is_sheet [netD net2, d] h) Q := by
  unfold g__law_is_sheet
  refine wp_run ?_
  unfold b__law_is_sheet
  rw [wo_seqS, wo_ifS]
  simp only [wp_orT, wp_notT, wp_tru, wp_tb, wp_bin, wp_fn, wp_call, wp_cons, wp_var, wp_c, wp_nil]
  refine ⟨_, rfl, ?_⟩
  rw [isF_tup t, wp_ok]
  refine ⟨_, rfl, ?_⟩
  rcases tupY (d := d) with ⟨xs, rfl⟩ | e1
  case inr =>
    have : shB d = false := by
      cases d with
      | tup xs => cases e1
      | _ => rfl
    rw [this] at q
    rw [e1, if_pos (by decide), if_pos trivial, wo_ret, wp_c]
    exact q _ .refl
  rw [show isT1 (.tup xs) = true from rfl, if_neg (by decide)]
  refine ⟨_, rfl, ?_⟩
  rw [wp_lenT, wp_neI]
  refine ⟨_, rfl, ?_⟩
  rcases tup4 (d := .tup xs) with ⟨c, nr, s, l, ex⟩ | ⟨e1, e2⟩
  case inr =>
    have e3 : ¬ xs.length = 4 := of_decide_eq_false e1
    have e4 : ¬ ((xs.length : Nat) : Int) = 4 := by omega
    have : shB (.tup xs) = false := by
      match xs with
      | [] => rfl
      | [_] => rfl
      | [_, _] => rfl
      | [_, _, _] => rfl
      | [_, _, _, _] => cases e1
      | _ :: _ :: _ :: _ :: _ :: r => rfl
    rw [this] at q
    rw [if_pos (by simp [e4]), if_pos trivial, wo_ret, wp_c]
    exact q _ .refl
  cases ex
  have tc := tm_in t c (by simp)
  have tn := tm_in t nr (by simp)
  have ts := tm_in t s (by simp)
  have tl := tm_in t l (by simp)
  rw [shB_four] at q
  rw [if_neg (by simp)]
  refine ⟨_, rfl, ?_⟩
  rw [ix_0, wp_ok]
  refine ⟨rfl, ?_⟩
  rw [count_eq tc, wp_ok]
  refine ⟨_, rfl, ?_⟩
  cases hc : cntB 0 c with
  | false =>
    have : belB 2 c = false := by
      cases c with
      | int i => rw [belB_int, show decide (0 ≤ i) = false from hc]; rfl
      | _ => rfl
    rw [this] at q
    rw [if_pos (by decide), if_pos trivial, wo_ret, wp_c]
    exact q _ .refl
  | true =>
  obtain ⟨c, rfl, c0⟩ := cnt_of hc
  rw [if_neg (by decide)]
  refine ⟨_, rfl, ?_⟩
  rw [ix_1, wp_ok]
  refine ⟨rfl, ?_⟩
  rw [count_eq tn, wp_ok]
  refine ⟨_, rfl, ?_⟩
  cases hnr : cntB 0 nr with
  | false =>
    rw [hnr] at q
    rw [if_pos (by decide), if_pos trivial, wo_ret, wp_c]
    have e : (belB 2 (.int c) && (false && (twoB s && (lksB l && rest4 (.int c) nr s l)))) = false := by simp
    rw [e] at q
    exact q _ .refl
  | true =>
  obtain ⟨nr, rfl, nr0⟩ := cnt_of hnr
  rw [if_neg (by decide)]
  refine ⟨_, rfl, ?_⟩
  rw [ix_0, wp_ok]
  refine ⟨_, rfl, ?_⟩
  rw [wp_lenT, wp_ge]
  refine ⟨_, rfl, ?_⟩
  by_cases c2 : 2 ≤ c
  · have : belB 2 (.int c) = false := by rw [belB_int, decide_eq_false (show ¬ c < 2 by omega), Bool.and_false]
    rw [this] at q
    rw [show decide (((List.map Ch.d net2).length : Int) ≤ c) = true from decide_eq_true c2, if_pos rfl, wo_ret, wp_c]
    exact q _ .refl
  rw [show decide (((List.map Ch.d net2).length : Int) ≤ c) = false from decide_eq_false c2, if_neg (by decide), wo_nxS]
  have hbel : belB 2 (.int c) = true := by rw [belB_int, decide_eq_true c0, decide_eq_true (show c < 2 by omega)]; rfl
  rw [hbel, hnr, Bool.true_and, Bool.true_and] at q
  rw [wo_seqS, wo_ifS]
  simp only [wp_orT, wp_notT, wp_tru, wp_call, wp_cons, wp_nil, wp_bin, wp_var, wp_c]
  refine ⟨_, rfl, ?_⟩
  rw [ix_2, wp_ok, isF_tup ts, wp_ok]
  refine ⟨_, rfl, ?_⟩
  rcases tupY (d := s) with ⟨ss, rfl⟩ | e1
  case inr =>
    have : twoB s = false := by
      cases s with
      | tup xs => cases e1
      | _ => rfl
    rw [this] at q
    rw [e1, if_pos (by decide), if_pos trivial, wo_ret, wp_c]
    exact q _ .refl
  rw [show isT1 (.tup ss) = true from rfl, if_neg (by decide), wp_tb]
  simp only [wp_bin, wp_call, wp_cons, wp_var, wp_c, wp_nil]
  refine ⟨_, rfl, ?_⟩
  rw [ix_2, wp_ok, wp_lenT, wp_neI]
  refine ⟨_, rfl, ?_⟩
  rcases tup2 (d := .tup ss) with ⟨a0, a1, ex⟩ | ⟨e1, _⟩
  case inr =>
    have e3 : ¬ ss.length = 2 := of_decide_eq_false e1
    have e4 : ¬ ((ss.length : Nat) : Int) = 2 := by omega
    rw [two_no e1] at q
    rw [if_pos (by simp [e4]), if_pos trivial, wo_ret, wp_c]
    exact q _ .refl
  cases ex
  have t0 := tm_in ts a0 (by simp)
  have t1 := tm_in ts a1 (by simp)
  rw [if_neg (by simp), wp_tb]
  refine bad_ne (xs := [a0, a1]) (f := cntB 0) (by simp [mBin, mVar, mC, R.bind, ixD, at2]) (by simp) (fun x hx h' fx => ?_) fun g1 f1 => ?_
  · have tx := tm_fx fx (tm_in ts x hx)
    show mNotT (mTru (mFn 1 g__law_is_count (mCons (mVar 2) mNil))) [_, _, some x, _, _] h' = _
    simp [mNotT, mTru, mFn, mCons, mVar, mNil, R.bind, count_eq tx, truO, truD]
    try rfl
  refine ⟨_, rfl, ?_⟩
  rw [twoB_two] at q
  have ea : [a0, a1].all (cntB 0) = (cntB 0 a0 && cntB 0 a1) := by simp
  rw [ea]
  cases h2 : (cntB 0 a0 && cntB 0 a1) with
  | false =>
    rw [h2] at q
    rw [if_pos (by decide), wo_ret, wp_c]
    exact q _ f1
  | true =>
  rw [h2, Bool.true_and] at q
  rw [Bool.and_eq_true] at h2
  obtain ⟨s0, rfl, s00⟩ := cnt_of h2.1
  obtain ⟨s1, rfl, s10⟩ := cnt_of h2.2
  rw [if_neg (by decide), wo_nxS, wo_seqS, wo_ifS]
  simp only [wp_orT, wp_notT, wp_tru, wp_call, wp_cons, wp_nil, wp_bin, wp_var, wp_c]
  refine ⟨_, rfl, ?_⟩
  have tl1 := tm_fx f1 tl
  rw [ix_3, wp_ok, isF_tup tl1, wp_ok]
  refine ⟨_, rfl, ?_⟩
  rcases tupX (d := l) with ⟨ls, rfl⟩ | ⟨e1, e2⟩
  case inr =>
    rw [e2] at q
    rw [e1, if_pos (by decide), if_pos trivial, wo_ret, wp_c]
    exact q _ f1
  rw [show isT1 (.tup ls) = true from rfl, if_neg (by decide), wp_tb]
  have ll := few _ _ _ ls rfl
  rw [lksB_tup] at q
  refine bad_ne (xs := ls) (f := lkB) (by simp [mBin, mVar, mC, R.bind, ixD, at3]) (by omega) (fun x hx h' fx => ?_) fun g2 f2 => ?_
  · have tx := tm_fx fx (tm_in tl1 x hx)
    show mNotT (mTru (mFn 1 g__law_is_lock (mCons (mVar 2) mNil))) [_, _, some x, _, _] h' = _
    simp [mNotT, mTru, mFn, mCons, mVar, mNil, R.bind, llock_eq hn tx, truO, truD]
    try rfl
  refine ⟨_, rfl, ?_⟩
  have f12 := f1.trans f2
  cases hlk : ls.all lkB with
  | false =>
    rw [hlk] at q
    rw [if_pos (by decide), wo_ret, wp_c]
    exact q _ f12
  | true =>
  rw [hlk, Bool.true_and] at q
  obtain ⟨L, rfl, gs⟩ := lks_of hlk
  rw [sec_map] at q
  have ll : L.length ≤ 4 := by simpa using ll
  have q2 : ∀ h', Fx h h' → Q (.bl (decide ((L.map Lk.s).Nodup) && restB c nr s0 s1 (L.map Lk.d))) h' := q
  clear q
  rw [if_neg (by decide), wo_nxS, wo_seqS, wo_set]
  refine wp_lcT (L.map Lk.d) (fun y => match y with | .tup [_, _, im, _] => im | _ => .non) (by simp [mVar, mBin, mC, R.bind, ixD, at3]) (by simp; omega) (fun y hy h' fx => ?_) fun l3 => ?_
  · obtain ⟨x, hx, rfl⟩ := List.mem_map.mp hy
    refine ⟨_, rfl, ?_⟩
    simp only [wp_bin, wp_var, wp_c]
    refine ⟨_, rfl, ?_⟩
    rw [ix_2, wp_ok]
    exact ⟨.refl, rfl⟩
  have e1 : (L.map Lk.d).map (fun y => match y with | .tup [_, _, im, _] => im | _ => .non) = L.map fun x => imD x.s := by
    rw [List.map_map]; rfl
  rw [e1]
  have f3 : Fx h (g2 ++ Cl.lst (L.map fun x => imD x.s) :: l3) := f12.trans .more
  have e3 : anyAt (g2 ++ Cl.lst (L.map fun x => imD x.s) :: l3) g2.length = some (L.map fun x => imD x.s) := any_new
  generalize g2 ++ Cl.lst (L.map fun x => imD x.s) :: l3 = g3 at f3 e3 ⊢
  obtain ⟨ch, kk, ek, rfl, en, ef⟩ : ∃ (ch : Ch) (k : Nat), net2[k]? = some ch ∧ c = (k : Nat) ∧ ch.c0 = nearI c ∧ ch.c1 = farI c := by
    rcases (show c = 0 ∨ c = 1 by omega) with rfl | rfl
    · exact ⟨_, 0, rfl, rfl, rfl, rfl⟩
    · exact ⟨_, 1, rfl, rfl, rfl, rfl⟩
  have IX : ∀ g, ixD (netD net2) (.int (kk : Nat)) g = .ok ch.d g := fun g => by
    have := atI_nat (xs := net2.map Ch.d) (j := kk) (v := ch.d) (by rw [List.getElem?_map, ek]; rfl)
    simp only [ixD]
    rw [this]
  rw [wo_seqS, wo_set]
  simp only [wp_bin, wp_var, wp_c]
  refine ⟨_, rfl, _, rfl, ?_⟩
  rw [ix_0, wp_ok, IX, wp_ok, ix_2, wp_ok]
  refine ⟨_, rfl, _, rfl, ?_⟩
  rw [ix_0, wp_ok, IX, wp_ok, ix_3, wp_ok, wp_addI]
  rw [wo_seqS, wo_ifS]
  simp only [wp_orT, wp_tb, wp_bin, wp_call, wp_cons, wp_var, wp_c, wp_nil]
  refine wp_lenSetT ?_
  rw [wp_var]
  refine ⟨_, rfl, _, _, _, rfl, e3, toPy_imL L, by simpa using ll, ims_tup, ?_⟩
  refine ⟨_, rfl, ?_⟩
  rw [show lenF [.ref g2.length] g3 = .ok (.int (L.length : Nat)) g3 by simp [lenF, e3], wp_ok, wp_neI]
  refine ⟨_, rfl, ?_⟩
  rw [set_ims]
  by_cases nd : (L.map Lk.s).Nodup
  case neg =>
    rw [decide_eq_false nd] at q2 ⊢
    rw [if_pos (by decide), if_pos trivial, wo_ret, wp_c]
    exact q2 _ f3
  rw [decide_eq_true nd] at q2 ⊢
  rw [Bool.true_and] at q2
  rw [if_neg (by decide)]
  refine ⟨_, rfl, ?_⟩
  rw [ix_2, wp_ok]
  refine wp_sumT (is := [s0, s1]) rfl ?_
  refine wp_lcT (L.map Lk.d) (fun y => match y with | .tup [_, a, _, _] => a | _ => .non) (by simp [mVar, mBin, mC, R.bind, ixD, at3]) (by simp; omega) (fun y hy h' fx => ?_) fun l4 => ?_
  · obtain ⟨x, hx, rfl⟩ := List.mem_map.mp hy
    refine ⟨_, rfl, ?_⟩
    simp [wipeD, ixD, at1, Fx.refl]
  have e4 : (L.map Lk.d).map (fun y => match y with | .tup [_, a, _, _] => a | _ => .non) = (L.map Lk.a).map D.int := by
    rw [List.map_map, List.map_map]; rfl
  rw [e4]
  refine wp_sumL any_new (allInt_id _) ?_
  rw [wp_addI]
  have f4 : Fx h (g3 ++ Cl.lst ((L.map Lk.a).map D.int) :: l4) := f3.trans .more
  generalize g3 ++ Cl.lst ((L.map Lk.a).map D.int) :: l4 = g4 at f4 ⊢
  refine ⟨_, rfl, ?_⟩
  rw [wp_neI]
  refine ⟨_, rfl, ?_⟩
  have sm : [s0, s1].sum = s0 + s1 := by simp
  rw [sm, en, ef]
  by_cases tot : s0 + s1 + (L.map Lk.a).sum = nearI (kk : Nat) + farI (kk : Nat)
  case neg =>
    rw [decide_eq_false tot, if_pos (by decide), wo_ret, wp_c]
    have : restB (kk : Nat) nr s0 s1 (L.map Lk.d) = false := by
      unfold restB
      rw [am_map]
      by_cases z : nr = 0
      · rw [if_pos z]
        rw [Bool.eq_false_iff]
        intro e
        rw [Bool.and_eq_true, Bool.and_eq_true, decide_eq_true_eq, decide_eq_true_eq] at e
        obtain ⟨a, b, cc⟩ := e
        cases L with
        | nil => apply tot; rw [a, b]; simp
        | cons x L => cases cc
      · rw [if_neg z]; exact decide_eq_false tot
    rw [this] at q2
    exact q2 _ f4
  rw [decide_eq_true tot, if_neg (by decide), wo_nxS, wo_ret, wp_or]
  simp only [wp_bin, wp_var, wp_c]
  refine ⟨_, rfl, ?_⟩
  rw [ix_1, wp_ok, wp_gt]
  by_cases z : nr = 0
  case neg =>
    refine ⟨true, by rw [decide_eq_true (by omega)]; rfl, ?_⟩
    rw [if_pos rfl, decide_eq_true (show 0 < nr by omega)]
    have : restB (kk : Nat) nr s0 s1 (L.map Lk.d) = true := by
      unfold restB
      rw [if_neg z, am_map]
      exact decide_eq_true tot
    rw [this] at q2
    exact q2 _ f4
  subst z
  refine ⟨false, by rw [decide_eq_false (by omega)]; rfl, ?_⟩
  rw [if_neg (by decide)]
  simp only [wp_and, wp_bin, wp_var, wp_c, wp_sl, wp_part, wp_noP]
  refine ⟨_, rfl, ?_⟩
  rw [ix_2, wp_ok]
  refine ⟨_, rfl, _, rfl, ?_⟩
  rw [ix_0, wp_ok, IX, wp_ok]
  refine ⟨2, rfl, ?_⟩
  rw [wp_slT, show cutD [D.int ch.p0, .int ch.p1, .int ch.c0, .int ch.c1] (some 2) none = [.int ch.c0, .int ch.c1] from rfl]
  have fa : flat 2 (.tup [.int s0, .int s1]) = true := rfl
  have fb : flat 2 (.tup [.int ch.c0, .int ch.c1]) = true := rfl
  rw [eqD_flat (n := 2) (by omega) fa fb, wp_ok]
  refine ⟨_, rfl, ?_⟩
  have er : restB (kk : Nat) 0 s0 s1 (L.map Lk.d) = (eqc (.tup [.int s0, .int s1]) (.tup [.int ch.c0, .int ch.c1]) && eqc (.tup (L.map Lk.d)) (.tup [])) := by
    unfold restB
    rw [if_pos rfl, ← en, ← ef, Bool.eq_iff_iff]
    simp only [Bool.and_eq_true, eqc_iff, decide_eq_true_eq]
    cases L <;> simp
  rw [er] at q2
  cases ec : eqc (.tup [.int s0, .int s1]) (.tup [.int ch.c0, .int ch.c1]) with
  | false =>
    rw [ec] at q2
    rw [if_neg (by decide)]
    exact q2 _ f4
  | true =>
    rw [ec, Bool.true_and] at q2
    rw [if_pos rfl]
    refine ⟨_, rfl, ?_⟩
    rw [ix_3, wp_ok]
    simp only [wp_tup, wp_nil]
    refine ⟨by show 0 ≤ 16777216; decide, ?_⟩
    have fc : flat 4 (.tup (L.map Lk.d)) = true := flat_map (by omega) fun _ _ => flat_lk
    have fd : flat 4 (.tup []) = true := rfl
    rw [eqD_flat (n := 4) (by omega) fc fd, wp_ok]
    exact q2 _ f4
end
end K11
namespace K11
open PySem PySem.Spec L2 Ml
abbrev wO : Str := PySem.Str.ofString "offer"
abbrev wA : Str := PySem.Str.ofString "agree"
abbrev wT : Str := PySem.Str.ofString "turn"
abbrev wS : Str := PySem.Str.ofString "secret"
abbrev wP : Str := PySem.Str.ofString "pass"
theorem lay_OA : ∀ t ∈ [wO, wA], (PyData.str t).canLay0 = true := by
  intro t ht
  simp only [List.mem_cons, List.not_mem_nil, or_false] at ht
  rcases ht with rfl | rfl <;> kernel_rfl
theorem lay_TS : ∀ t ∈ [wT, wS], (PyData.str t).canLay0 = true := by
  intro t ht
  simp only [List.mem_cons, List.not_mem_nil, or_false] at ht
  rcases ht with rfl | rfl <;> kernel_rfl
theorem lay_TSP : ∀ t ∈ [wT, wS, wP], (PyData.str t).canLay0 = true := by
  intro t ht
  simp only [List.mem_cons, List.not_mem_nil, or_false] at ht
  rcases ht with rfl | rfl | rfl <;> kernel_rfl
theorem lay_P : (PyData.str wP).canLay0 = true := by kernel_rfl
def arfB : D → Bool
  | .tup xs => xs.all (cntB 0)
  | _ => false
def wayB : D → D → Bool
  | .tup rs, .tup es => rs.all (cntB 0) && (es.all (cntB 0) && (decide (rs.length = es.length) && rs.all (belB 2)))
  | _, _ => false
def letL : D → D → List D → Bool
  | w, s, [] => (isS wO w || isS wA w) && shB s
  | w, c, [v] => (isS wT w || isS wS w) && (belB 2 c && cntB 0 v)
  | w, c, [im, r, e] => isS wP w && (belB 2 c && (imgB im && wayB r e))
  | _, _, _ => false
def letB : D → Bool
  | .tup (w :: x :: rest) => letL w x rest
  | _ => false
/-- the locks of a sheet in a letter are few -/
def Few (d : D) : Prop := ∀ w c nr s ls, d = .tup [w, .tup [c, nr, s, .tup ls]] → ls.length ≤ 4
theorem apart {d : D} {s t : Str} (ne : s ≠ t) (e : isS s d = true) : isS t d = false := by
  rw [isS_of e]
  exact decide_eq_false ne
theorem nOT : wO ≠ wT := by decide +kernel
theorem nOS : wO ≠ wS := by decide +kernel
theorem nOP : wO ≠ wP := by decide +kernel
theorem nAT : wA ≠ wT := by decide +kernel
theorem nAS : wA ≠ wS := by decide +kernel
theorem nAP : wA ≠ wP := by decide +kernel
theorem nPT : wP ≠ wT := by decide +kernel
theorem nPS : wP ≠ wS := by decide +kernel
theorem rest4c (rest : List D) : rest = [] ∨ (∃ v, rest = [v]) ∨ (∃ a b c, rest = [a, b, c]) ∨ (rest.length ≠ 0 ∧ rest.length ≠ 1 ∧ rest.length ≠ 3 ∧ ∀ w x, letL w x rest = false) := by
  match rest with
  | [] => exact .inl rfl
  | [v] => exact .inr (.inl ⟨v, rfl⟩)
  | [_, _] => exact .inr (.inr (.inr ⟨by simp, by simp, by simp, fun _ _ => rfl⟩))
  | [a, b, c] => exact .inr (.inr (.inl ⟨a, b, c, rfl⟩))
  | _ :: _ :: _ :: _ :: r => exact .inr (.inr (.inr ⟨by simp, by simp, by simp, fun _ _ => rfl⟩))
theorem short {d : D} : (∃ w x rest, d = .tup (w :: x :: rest)) ∨ (letB d = false ∧ (isT1 d = false ∨ ∃ xs, d = .tup xs ∧ xs.length < 2)) := by
  cases d with
  | tup xs =>
    match xs with
    | [] => exact .inr ⟨rfl, .inr ⟨_, rfl, by simp⟩⟩
    | [_] => exact .inr ⟨rfl, .inr ⟨_, rfl, by simp⟩⟩
    | w :: x :: rest => exact .inl ⟨w, x, rest, rfl⟩
  | _ => exact .inr ⟨rfl, .inl rfl⟩
section
variable {h : Sto} {Q : D → Sto → Prop} {u b n m : Nat} {d : D} {ρ : Sl}
theorem tm_tail {w : D} {xs : List D} (t : Tm u b h n (.tup xs)) {k : Nat} {x : D} (e : xs[k]? = some x) : Tm u b h n x := tm_in t x (List.mem_of_getElem? e)
theorem ix_at {xs : List D} {k : Nat} {x : D} (e : xs[k]? = some x) : ixD (.tup xs) (.int (k : Nat)) h = .ok x h := by
  simp only [ixD]
  rw [atI_nat e]
theorem are_from_any (hb : b ≤ 100) (t : Tm u b h n d) (q : ∀ h', Fx h h' → Q (.bl (arfB d)) h') : wp (g_are_from [d, .int 0] h) Q := by
  unfold g_are_from
  refine wp_run ?_
  unfold b_are_from
  simp only [wo_ret, wp_and, wp_call, wp_cons, wp_var, wp_c, wp_nil]
  refine ⟨_, rfl, ?_⟩
  rw [isF_tup t, wp_ok]
  refine ⟨_, rfl, ?_⟩
  rcases tupY (d := d) with ⟨xs, rfl⟩ | e1
  · have hl := tm_len t
    rw [show isT1 (.tup xs) = true from rfl, if_pos rfl]
    refine wp_lcT xs (fun x => .bl (cntB 0 x)) (by simp [mVar]) (by omega) (fun x hx h' fx => ?_) fun l2 => ?_
    · refine ⟨_, rfl, ?_⟩
      simp only [wp_fn, wp_cons, wp_var, wp_nil]
      refine ⟨_, rfl, _, rfl, rfl, ?_⟩
      rw [from_eq (tm_fx fx (tm_in t x hx)), wp_ok]
      exact ⟨.refl, rfl⟩
    · have em : (xs.map fun x => D.bl (cntB 0 x)) = (xs.map (cntB 0)).map D.bl := by rw [List.map_map]; rfl
      rw [em]
      refine wp_allF any_new (any_bls _) ?_
      have ea : (xs.map (cntB 0)).all id = xs.all (cntB 0) := by rw [List.all_map]; rfl
      rw [ea]
      exact q _ .more
  · have : arfB d = false := by
      cases d with
      | tup xs => cases e1
      | _ => rfl
    rw [e1, if_neg (by decide)]
    rw [this] at q
    exact q _ .refl
theorem in_OA {w : D} (hn : n ≤ 20) (t : Tm u b h n w) : inD w (.tup [.str wO, .str wA]) h = .ok (.bl (isS wO w || isS wA w)) h := by
  have := in_strs hn t lay_OA
  simpa using this
theorem in_TS {w : D} (hn : n ≤ 20) (t : Tm u b h n w) : inD w (.tup [.str wT, .str wS]) h = .ok (.bl (isS wT w || isS wS w)) h := by
  have := in_strs hn t lay_TS
  simpa using this
theorem notin_TSP {w : D} (hn : n ≤ 20) (t : Tm u b h n w) : notInD w (.tup [.str wT, .str wS, .str wP]) h = .ok (.bl (!(isS wT w || (isS wS w || isS wP w)))) h := by
  have e : inD w (.tup [.str wT, .str wS, .str wP]) h = .ok (.bl (isS wT w || (isS wS w || isS wP w))) h := by
    have := in_strs hn t lay_TSP
    simpa using this
  unfold inD at e
  unfold notInD
  cases eo : inO h w (.tup [.str wT, .str wS, .str wP]) with
  | none => rw [eo] at e; cases e
  | some c => rw [eo] at e; injection e with e; injection e with e; rw [e]
theorem tupB_tup {k : Nat} {xs : List D} : tupB k (.tup xs) = decide (xs.length = k) := rfl
theorem all_both {rs : List D} (e : rs.all (cntB 0) = true) : ∃ is : List Int, rs = is.map D.int ∧ ∀ i ∈ is, 0 ≤ i := by
  induction rs with
  | nil => exact ⟨[], rfl, fun _ z => nomatch z⟩
  | cons x rs ih =>
    rw [List.all_cons, Bool.and_eq_true] at e
    obtain ⟨i, rfl, hi⟩ := cnt_of e.1
    obtain ⟨is, rfl, h2⟩ := ih e.2
    exact ⟨i :: is, rfl, fun j hj => by
      rcases List.mem_cons.mp hj with rfl | hj
      · exact hi
      · exact h2 j hj⟩
theorem letter_any {y : D} (L : Si u 3 (netD net2) y h) (hn : n ≤ 20) (hb : b ≤ 100) (t : Tm u b h n d) (q : ∀ h', Fx h h' → Q (.bl (letB d)) h') : wp (g_is_letter [y, d] h) Q := by
  have ln : ∀ h', Fx h h' → lenF [y] h' = .ok (.int 2) h' := fun h' f => si_len (si_fx f L)
  unfold g_is_letter
  refine wp_run ?_
  unfold b_is_letter
  rw [wo_seqS, wo_ifS]
  simp only [wp_tru, wp_fn, wp_cons, wp_var, wp_c, wp_nil]
  refine ⟨_, rfl, rfl, ?_⟩
  rw [tuple_eq2 t, wp_ok]
  refine ⟨_, rfl, ?_⟩
  have non : (∀ k, 2 ≤ k → tupB k d = false) → letB d = false → wo (mSeqS (mIfS (mTru (mFn 2 g_is_tuple_of (mCons (mVar 1) (mCons (mC (.int 3)) mNil)))) (mRet (mAnd (mBin inD (mBin ixD (mVar 1) (mC (.int 0))) (mC (.tup [.str (PySem.Str.ofString "turn"), .str (PySem.Str.ofString "secret")]))) (mAnd (mFn 2 g_is_below (mCons (mBin ixD (mVar 1) (mC (.int 1))) (mCons (mCall lenF (mCons (mVar 0) mNil)) mNil))) (mFn 2 g_is_from (mCons (mBin ixD (mVar 1) (mC (.int 2))) (mCons (mC (.int 0)) mNil)))))) mNx) (mSeqS (mIfS (mOrT (mNotT (mTru (mFn 2 g_is_tuple_of (mCons (mVar 1) (mCons (mC (.int 5)) mNil))))) (mOrT (mTB (mBin neD (mBin ixD (mVar 1) (mC (.int 0))) (mC (.str (PySem.Str.ofString "pass"))))) (mOrT (mNotT (mTru (mFn 2 g_is_below (mCons (mBin ixD (mVar 1) (mC (.int 1))) (mCons (mCall lenF (mCons (mVar 0) mNil)) mNil))))) (mNotT (mTru (mFn 1 g_is_image (mCons (mBin ixD (mVar 1) (mC (.int 2))) mNil))))))) (mRet (mC (.bl false))) mNx) (mSeqS (mUnp (.many [2, 3]) (mSl (mVar 1) (mPart (mC (.int 3))) mNoP)) (mSeqS (mIfS (mOrT (mNotT (mTru (mFn 2 g_are_from (mCons (mVar 2) (mCons (mC (.int 0)) mNil))))) (mOrT (mNotT (mTru (mFn 2 g_are_from (mCons (mVar 3) (mCons (mC (.int 0)) mNil))))) (mTB (mBin neD (mCall lenF (mCons (mVar 2) mNil)) (mCall lenF (mCons (mVar 3) mNil)))))) (mRet (mC (.bl false))) mNx) (mRet (mCall allF (mCons (mLc (mSeq (mVar 2)) (.one 4) mYes (mBin ltD (mVar 4) (mCall lenF (mCons (mVar 0) mNil))) [4]) mNil)))))) [some y, some d, none, none, none] h) (fun _ h' => Q .non h') Q := fun hk hz => by
    rw [wo_seqS, wo_ifS]
    simp only [wp_tru, wp_fn, wp_cons, wp_var, wp_c, wp_nil]
    refine ⟨_, rfl, rfl, ?_⟩
    rw [tuple_eq3 t, wp_ok, hk 3 (by omega)]
    refine ⟨_, rfl, ?_⟩
    rw [if_neg (by decide), wo_nxS, wo_seqS, wo_ifS]
    simp only [wp_orT, wp_notT, wp_tru, wp_fn, wp_cons, wp_var, wp_c, wp_nil]
    refine ⟨_, rfl, rfl, ?_⟩
    rw [tuple_eq5 t, wp_ok, hk 5 (by omega)]
    refine ⟨_, rfl, ?_⟩
    rw [if_pos (by decide), if_pos trivial, wo_ret, wp_c]
    rw [hz] at q
    exact q _ .refl
  rcases short (d := d) with ⟨w, x, rest, rfl⟩ | ⟨hz, hk⟩
  case inr =>
    have hk2 : ∀ k, 2 ≤ k → tupB k d = false := fun k hk2 => by
      rcases hk with e | ⟨xs, rfl, hl⟩
      · cases d with
        | tup xs => cases e
        | _ => rfl
      · exact decide_eq_false (by omega)
    rw [hk2 2 (by omega), if_neg (by decide), wo_nxS]
    exact non hk2 hz
  have tw := tm_in t w (by simp)
  have tx := tm_in t x (by simp)
  rcases rest4c rest with rfl | ⟨v, rfl⟩ | ⟨im, r, e, rfl⟩ | ⟨n0, n1, n3, hz⟩
  · rw [show tupB 2 (.tup [w, x]) = true from rfl, if_pos rfl, wo_ret]
    simp only [wp_and, wp_bin, wp_var, wp_c]
    refine ⟨_, rfl, ?_⟩
    rw [ix_0, wp_ok, in_OA hn tw, wp_ok]
    refine ⟨_, rfl, ?_⟩
    have q2 : ∀ h', Fx h h' → Q (.bl ((isS wO w || isS wA w) && shB x)) h' := q
    cases c : (isS wO w || isS wA w) with
    | false =>
      rw [c] at q2
      rw [if_neg (by decide)]
      exact q2 _ .refl
    | true =>
      rw [c, Bool.true_and] at q2
      rw [if_pos rfl]
      simp only [wp_fn, wp_cons, wp_bin, wp_var, wp_c, wp_nil]
      refine ⟨_, rfl, _, rfl, ?_⟩
      rw [ix_1, wp_ok]
      exact ⟨rfl, sheet_any L hn hb tx q2⟩
  · have tv := tm_in t v (by simp)
    rw [show tupB 2 (.tup [w, x, v]) = false from rfl, if_neg (by decide), wo_nxS, wo_seqS, wo_ifS]
    simp only [wp_tru, wp_fn, wp_cons, wp_var, wp_c, wp_nil]
    refine ⟨_, rfl, rfl, ?_⟩
    rw [tuple_eq3 t, wp_ok]
    refine ⟨_, rfl, ?_⟩
    rw [show tupB 3 (.tup [w, x, v]) = true from rfl, if_pos rfl, wo_ret]
    simp only [wp_and, wp_bin, wp_var, wp_c]
    refine ⟨_, rfl, ?_⟩
    rw [ix_0, wp_ok, in_TS hn tw, wp_ok]
    refine ⟨_, rfl, ?_⟩
    have q2 : ∀ h', Fx h h' → Q (.bl ((isS wT w || isS wS w) && (belB 2 x && cntB 0 v))) h' := q
    cases c : (isS wT w || isS wS w) with
    | false =>
      rw [c] at q2
      rw [if_neg (by decide)]
      exact q2 _ .refl
    | true =>
      rw [c, Bool.true_and] at q2
      rw [if_pos rfl]
      simp only [wp_fn, wp_cons, wp_bin, wp_call, wp_var, wp_c, wp_nil]
      refine ⟨_, rfl, ?_⟩
      rw [ix_1, wp_ok]
      refine ⟨_, rfl, ?_⟩
      rw [ln h .refl, wp_ok]
      refine ⟨rfl, ?_⟩
      rw [below_eq tx, wp_ok]
      refine ⟨_, rfl, ?_⟩
      cases c2 : belB 2 x with
      | false =>
        rw [c2] at q2
        rw [if_neg (by decide)]
        exact q2 _ .refl
      | true =>
        rw [c2, Bool.true_and] at q2
        rw [if_pos rfl]
        refine ⟨_, rfl, ?_⟩
        rw [ix_2, wp_ok]
        refine ⟨rfl, ?_⟩
        rw [from_eq tv, wp_ok]
        exact q2 _ .refl
  · have ti := tm_in t im (by simp)
    have tr := tm_in t r (by simp)
    have te := tm_in t e (by simp)
    rw [show tupB 2 (.tup [w, x, im, r, e]) = false from rfl, if_neg (by decide), wo_nxS, wo_seqS, wo_ifS]
    simp only [wp_tru, wp_fn, wp_cons, wp_var, wp_c, wp_nil]
    refine ⟨_, rfl, rfl, ?_⟩
    rw [tuple_eq3 t, wp_ok]
    refine ⟨_, rfl, ?_⟩
    rw [show tupB 3 (.tup [w, x, im, r, e]) = false from rfl, if_neg (by decide), wo_nxS, wo_seqS, wo_ifS]
    simp only [wp_orT, wp_notT, wp_tru, wp_fn, wp_cons, wp_var, wp_c, wp_nil]
    refine ⟨_, rfl, rfl, ?_⟩
    rw [tuple_eq5 t, wp_ok]
    refine ⟨_, rfl, ?_⟩
    rw [show tupB 5 (.tup [w, x, im, r, e]) = true from rfl, if_neg (by decide), wp_tb]
    simp only [wp_bin, wp_var, wp_c]
    refine ⟨_, rfl, ?_⟩
    rw [ix_0, wp_ok, ne_str hn tw lay_P, wp_ok]
    refine ⟨_, rfl, ?_⟩
    have q2 : ∀ h', Fx h h' → Q (.bl (isS wP w && (belB 2 x && (imgB im && wayB r e)))) h' := q
    cases c : isS wP w with
    | false =>
      rw [c] at q2
      rw [if_pos (by decide), if_pos trivial, wo_ret, wp_c]
      exact q2 _ .refl
    | true =>
    rw [c, Bool.true_and] at q2
    rw [if_neg (by decide)]
    simp only [wp_call, wp_cons, wp_var, wp_nil]
    refine ⟨_, rfl, ?_⟩
    rw [ix_1, wp_ok]
    refine ⟨_, rfl, ?_⟩
    rw [ln h .refl, wp_ok]
    refine ⟨rfl, ?_⟩
    rw [below_eq tx, wp_ok]
    refine ⟨_, rfl, ?_⟩
    cases c2 : belB 2 x with
    | false =>
      rw [c2] at q2
      rw [if_pos (by decide), if_pos trivial, wo_ret, wp_c]
      exact q2 _ .refl
    | true =>
    rw [c2, Bool.true_and] at q2
    rw [if_neg (by decide)]
    refine ⟨_, rfl, ?_⟩
    rw [ix_2, wp_ok]
    refine ⟨rfl, ?_⟩
    rw [image_eq hn ti, wp_ok]
    refine ⟨_, rfl, ?_⟩
    cases c3 : imgB im with
    | false =>
      rw [c3] at q2
      rw [if_pos (by decide), wo_ret, wp_c]
      exact q2 _ .refl
    | true =>
    rw [c3, Bool.true_and] at q2
    rw [if_neg (by decide), wo_nxS, wo_seqS, wo_unp]
    simp only [wp_sl, wp_part, wp_noP, wp_var, wp_c]
    refine ⟨_, rfl, 3, rfl, ?_⟩
    rw [wp_slT, show cutD [w, x, im, r, e] (some 3) none = [r, e] from rfl]
    refine ⟨_, rfl, ?_⟩
    rw [wo_seqS, wo_ifS]
    simp only [wp_orT, wp_notT, wp_tru, wp_fn, wp_cons, wp_var, wp_c, wp_nil]
    refine ⟨_, rfl, rfl, are_from_any hb tr fun g1 f1 => ⟨_, rfl, ?_⟩⟩
    cases c4 : arfB r with
    | false =>
      have : wayB r e = false := by
        cases r with
        | tup rs => cases e with
          | tup es => show (rs.all (cntB 0) && _) = false; rw [show rs.all (cntB 0) = false from c4]; rfl
          | _ => rfl
        | _ => rfl
      rw [this] at q2
      rw [if_pos (by decide), if_pos trivial, wo_ret, wp_c]
      exact q2 _ f1
    | true =>
    rw [if_neg (by decide)]
    refine ⟨_, rfl, rfl, are_from_any hb (tm_fx f1 te) fun g2 f2 => ⟨_, rfl, ?_⟩⟩
    have f12 := f1.trans f2
    cases c5 : arfB e with
    | false =>
      have : wayB r e = false := by
        cases r with
        | tup rs => cases e with
          | tup es => show (rs.all (cntB 0) && (es.all (cntB 0) && _)) = false; rw [show es.all (cntB 0) = false from c5, Bool.false_and, Bool.and_false]
          | _ => rfl
        | _ => rfl
      rw [this] at q2
      rw [if_pos (by decide), if_pos trivial, wo_ret, wp_c]
      exact q2 _ f12
    | true =>
    obtain ⟨rs, rfl⟩ : ∃ rs, r = .tup rs := by
      cases r with
      | tup rs => exact ⟨rs, rfl⟩
      | _ => cases c4
    obtain ⟨es, rfl⟩ : ∃ es, e = .tup es := by
      cases e with
      | tup es => exact ⟨es, rfl⟩
      | _ => cases c5
    have c4 : rs.all (cntB 0) = true := c4
    have c5 : es.all (cntB 0) = true := c5
    have q3 : ∀ h', Fx h h' → Q (.bl (decide (rs.length = es.length) && rs.all (belB 2))) h' := fun h' f => by
      have this : Q (.bl (rs.all (cntB 0) && (es.all (cntB 0) && (decide (rs.length = es.length) && rs.all (belB 2))))) h' := q2 h' f
      rw [c4, c5] at this
      exact this
    rw [if_neg (by decide), wp_tb]
    simp only [wp_bin, wp_call, wp_cons, wp_var, wp_nil]
    refine ⟨_, rfl, ?_⟩
    rw [wp_lenT]
    refine ⟨_, rfl, ?_⟩
    rw [wp_lenT, wp_neI]
    refine ⟨_, rfl, ?_⟩
    by_cases c6 : rs.length = es.length
    case neg =>
      rw [decide_eq_false c6] at q3
      rw [decide_eq_false (by omega), if_pos (by decide), wo_ret, wp_c]
      exact q3 _ f12
    rw [decide_eq_true c6, Bool.true_and] at q3
    rw [decide_eq_true (by omega), if_neg (by decide), wo_nxS]
    have hrl := tm_len tr
    simp only [wo_ret, wp_call, wp_cons, wp_nil]
    refine wp_lcT rs (fun x => .bl (belB 2 x)) (by simp [mVar]) (by omega) (fun z hz h' fx => ?_) fun l2 => ?_
    · refine ⟨_, rfl, ?_⟩
      obtain ⟨i, rfl, hi⟩ := cnt_of (List.all_eq_true.mp c4 z hz)
      simp only [wp_bin, wp_call, wp_cons, wp_var, wp_nil]
      refine ⟨_, rfl, _, rfl, ?_⟩
      rw [ln h' (f12.trans fx), wp_ok, wp_lt]
      refine ⟨.refl, ?_⟩
      rw [belB_int, decide_eq_true hi, Bool.true_and]
    · have em : (rs.map fun x => D.bl (belB 2 x)) = (rs.map (belB 2)).map D.bl := by rw [List.map_map]; rfl
      rw [em]
      refine wp_allF any_new (any_bls _) ?_
      have ea : (rs.map (belB 2)).all id = rs.all (belB 2) := by rw [List.all_map]; rfl
      rw [ea]
      exact q3 _ (f12.trans .more)
  · have hk : ∀ k, k = 2 ∨ k = 3 ∨ k = 5 → tupB k (.tup (w :: x :: rest)) = false := fun k hk => decide_eq_false (by simp only [List.length_cons]; omega)
    rw [hk 2 (by omega), if_neg (by decide), wo_nxS]
    rw [wo_seqS, wo_ifS]
    simp only [wp_tru, wp_fn, wp_cons, wp_var, wp_c, wp_nil]
    refine ⟨_, rfl, rfl, ?_⟩
    rw [tuple_eq3 t, wp_ok, hk 3 (by omega)]
    refine ⟨_, rfl, ?_⟩
    rw [if_neg (by decide), wo_nxS, wo_seqS, wo_ifS]
    simp only [wp_orT, wp_notT, wp_tru, wp_fn, wp_cons, wp_var, wp_c, wp_nil]
    refine ⟨_, rfl, rfl, ?_⟩
    rw [tuple_eq5 t, wp_ok, hk 5 (by omega)]
    refine ⟨_, rfl, ?_⟩
    rw [if_pos (by decide), if_pos trivial, wo_ret, wp_c]
    have : letB (.tup (w :: x :: rest)) = false := hz w x
    rw [this] at q
    exact q _ .refl
end
end K11
namespace K11
open PySem PySem.Spec L2 Ml
theorem isS_not {d : D} {t : Str} (e : strK d = false) : isS t d = false := by
  cases d with
  | str s => cases e
  | _ => rfl
theorem letL_no {w x : D} {rest : List D} (e : strK w = false) : letL w x rest = false := by
  rcases rest4c rest with rfl | ⟨v, rfl⟩ | ⟨im, r, e2, rfl⟩ | ⟨_, _, _, hz⟩
  · show ((isS wO w || isS wA w) && _) = false
    rw [isS_not e, isS_not e]; rfl
  · show ((isS wT w || isS wS w) && _) = false
    rw [isS_not e, isS_not e]; rfl
  · show (isS wP w && _) = false
    rw [isS_not e]; rfl
  · exact hz w x
theorem oa_apart {w : D} (e : (isS wO w || isS wA w) = true) : isS wT w = false ∧ isS wS w = false ∧ isS wP w = false := by
  rw [Bool.or_eq_true] at e
  rcases e with e | e
  · exact ⟨apart nOT e, apart nOS e, apart nOP e⟩
  · exact ⟨apart nAT e, apart nAS e, apart nAP e⟩
theorem p_apart {w : D} (e : isS wP w = true) : isS wT w = false ∧ isS wS w = false := ⟨apart nPT e, apart nPS e⟩
section
variable {h : Sto} {Q : D → Sto → Prop} {u b n m : Nat} {d : D} {ρ : Sl}
theorem lletter_any (hn : n ≤ 20) (hb : b ≤ 100) (t : Tm u b h n d) (few : Few d) (q : ∀ h', Fx h h' → Q (.bl (letB d)) h') : wp (g__law_is_letter [netD net2, d] h) Q := by
  unfold g__law_is_letter
  refine wp_run ?_
  unfold b__law_is_letter
  rw [wo_seqS, wo_ifS]
  simp only [wp_orT, wp_notT, wp_tru, wp_tb, wp_bin, wp_fn, wp_call, wp_cons, wp_var, wp_c, wp_nil]
  refine ⟨_, rfl, ?_⟩
  rw [isF_tup t, wp_ok]
  refine ⟨_, rfl, ?_⟩
  rcases short (d := d) with ⟨w, x, rest, rfl⟩ | ⟨hz, hk⟩
  case inr =>
    rw [hz] at q
    rcases hk with e | ⟨xs, rfl, hl⟩
    · rw [e, if_pos (by decide), if_pos trivial, wo_ret, wp_c]
      exact q _ .refl
    · rw [show isT1 (.tup xs) = true from rfl, if_neg (by decide)]
      refine ⟨_, rfl, ?_⟩
      rw [wp_lenT, wp_lt]
      refine ⟨_, rfl, ?_⟩
      rw [decide_eq_true (by omega), if_pos rfl, if_pos trivial, wo_ret, wp_c]
      exact q _ .refl
  have tw := tm_in t w (by simp)
  have tx := tm_in t x (by simp)
  have q2 : ∀ h', Fx h h' → Q (.bl (letL w x rest)) h' := q
  clear q
  rw [show isT1 (.tup (w :: x :: rest)) = true from rfl, if_neg (by decide)]
  refine ⟨_, rfl, ?_⟩
  rw [wp_lenT, wp_lt]
  refine ⟨_, rfl, ?_⟩
  rw [decide_eq_false (by simp only [List.length_cons]; omega), if_neg (by decide)]
  refine ⟨_, rfl, ?_⟩
  rw [ix_0, wp_ok, isF_str tw, wp_ok]
  refine ⟨_, rfl, ?_⟩
  cases sw : strK w with
  | false =>
    rw [letL_no sw] at q2
    rw [if_pos (by decide), wo_ret, wp_c]
    exact q2 _ .refl
  | true =>
  rw [if_neg (by decide), wo_nxS, wo_seqS, wo_ifS]
  simp only [wp_tb, wp_bin, wp_tup, wp_cons, wp_var, wp_c, wp_nil]
  refine ⟨_, rfl, ?_⟩
  rw [ix_0, wp_ok]
  refine ⟨by show 2 ≤ 16777216; decide, ?_⟩
  rw [in_OA hn tw, wp_ok]
  refine ⟨_, rfl, ?_⟩
  cases oa : (isS wO w || isS wA w) with
  | true =>
    obtain ⟨a1, a2, a3⟩ := oa_apart oa
    rw [if_pos rfl, wo_ret]
    simp only [wp_and, wp_bin, wp_call, wp_cons, wp_var, wp_c, wp_nil]
    refine ⟨_, rfl, ?_⟩
    rw [wp_lenT, wp_eqI]
    refine ⟨_, rfl, ?_⟩
    rcases rest4c rest with rfl | ⟨v, rfl⟩ | ⟨im, r, e, rfl⟩ | ⟨n0, n1, n3, hz⟩
    · have q3 : ∀ h', Fx h h' → Q (.bl ((isS wO w || isS wA w) && shB x)) h' := q2
      rw [oa, Bool.true_and] at q3
      rw [show decide ((([w, x].length : Nat) : Int) = 2) = true from rfl, if_pos rfl]
      simp only [wp_fn, wp_cons, wp_bin, wp_var, wp_c, wp_nil]
      refine ⟨_, rfl, _, rfl, ?_⟩
      rw [ix_1, wp_ok]
      exact ⟨rfl, lsheet_any hn hb tx (fun c nr s ls e => few w c nr s ls (by rw [e])) q3⟩
    · have q3 : ∀ h', Fx h h' → Q (.bl ((isS wT w || isS wS w) && (belB 2 x && cntB 0 v))) h' := q2
      rw [a1, a2] at q3
      rw [show decide ((([w, x, v].length : Nat) : Int) = 2) = false from rfl, if_neg (by decide)]
      exact q3 _ .refl
    · have q3 : ∀ h', Fx h h' → Q (.bl (isS wP w && (belB 2 x && (imgB im && wayB r e)))) h' := q2
      rw [a3] at q3
      rw [show decide ((([w, x, im, r, e].length : Nat) : Int) = 2) = false from rfl, if_neg (by decide)]
      exact q3 _ .refl
    · rw [hz] at q2
      rw [decide_eq_false (by simp only [List.length_cons]; omega), if_neg (by decide)]
      exact q2 _ .refl
  | false =>
  rw [if_neg (by decide), wo_nxS, wo_seqS, wo_ifS]
  simp only [wp_orT, wp_notT, wp_tru, wp_tb, wp_bin, wp_tup, wp_fn, wp_call, wp_cons, wp_var, wp_c, wp_nil]
  refine ⟨_, rfl, ?_⟩
  rw [ix_0, wp_ok]
  refine ⟨by show 3 ≤ 16777216; decide, ?_⟩
  rw [notin_TSP hn tw, wp_ok]
  refine ⟨_, rfl, ?_⟩
  have noSh : rest = [] → letL w x rest = false := fun e => by
    subst e
    show ((isS wO w || isS wA w) && shB x) = false
    rw [oa]; rfl
  cases tsp : (isS wT w || (isS wS w || isS wP w)) with
  | false =>
    have z1 : isS wT w = false := by
      cases c : isS wT w with
      | false => rfl
      | true => rw [c] at tsp; cases tsp
    rw [z1, Bool.false_or] at tsp
    have z2 : isS wS w = false := by
      cases c : isS wS w with
      | false => rfl
      | true => rw [c] at tsp; cases tsp
    rw [z2, Bool.false_or] at tsp
    have : letL w x rest = false := by
      rcases rest4c rest with rfl | ⟨v, rfl⟩ | ⟨im, r, e, rfl⟩ | ⟨_, _, _, hz⟩
      · exact noSh rfl
      · show ((isS wT w || isS wS w) && (belB 2 x && cntB 0 v)) = false
        rw [z1, z2]; rfl
      · show (isS wP w && (belB 2 x && (imgB im && wayB r e))) = false
        rw [tsp]; rfl
      · exact hz w x
    rw [this] at q2
    rw [if_pos (by decide), if_pos trivial, wo_ret, wp_c]
    exact q2 _ .refl
  | true =>
  rw [if_neg (by decide)]
  refine ⟨_, rfl, ?_⟩
  rw [ix_1, wp_ok]
  refine ⟨rfl, ?_⟩
  rw [count_eq tx, wp_ok]
  refine ⟨_, rfl, ?_⟩
  have noBel : belB 2 x = false → letL w x rest = false := fun c => by
    rcases rest4c rest with rfl | ⟨v, rfl⟩ | ⟨im, r, e, rfl⟩ | ⟨_, _, _, hz⟩
    · exact noSh rfl
    · show ((isS wT w || isS wS w) && (belB 2 x && cntB 0 v)) = false
      rw [c]; simp
    · show (isS wP w && (belB 2 x && (imgB im && wayB r e))) = false
      rw [c]; simp
    · exact hz w x
  cases hc : cntB 0 x with
  | false =>
    have : belB 2 x = false := by
      cases x with
      | int i => rw [belB_int, show decide (0 ≤ i) = false from hc]; rfl
      | _ => rfl
    rw [noBel this] at q2
    rw [if_pos (by decide), if_pos trivial, wo_ret, wp_c]
    exact q2 _ .refl
  | true =>
  obtain ⟨c, rfl, c0⟩ := cnt_of hc
  rw [if_neg (by decide)]
  refine ⟨_, rfl, ?_⟩
  rw [ix_1, wp_ok]
  refine ⟨_, rfl, ?_⟩
  rw [wp_lenT, wp_ge]
  refine ⟨_, rfl, ?_⟩
  by_cases c2 : 2 ≤ c
  · have : belB 2 (.int c) = false := by rw [belB_int, decide_eq_false (show ¬ c < 2 by omega), Bool.and_false]
    rw [noBel this] at q2
    rw [show decide (((List.map Ch.d net2).length : Int) ≤ c) = true from decide_eq_true c2, if_pos rfl, wo_ret, wp_c]
    exact q2 _ .refl
  rw [show decide (((List.map Ch.d net2).length : Int) ≤ c) = false from decide_eq_false c2, if_neg (by decide), wo_nxS]
  have hbel : belB 2 (.int c) = true := by rw [belB_int, decide_eq_true c0, decide_eq_true (show c < 2 by omega)]; rfl
  rw [wo_seqS, wo_ifS]
  simp only [wp_tb, wp_bin, wp_var, wp_c]
  refine ⟨_, rfl, ?_⟩
  rw [ix_0, wp_ok, ne_str hn tw lay_P, wp_ok]
  refine ⟨_, rfl, ?_⟩
  cases pw : isS wP w with
  | false =>
    have ts : (isS wT w || isS wS w) = true := by
      rw [pw, Bool.or_false] at tsp
      exact tsp
    rw [if_pos (by decide), wo_ret]
    simp only [wp_and, wp_bin, wp_call, wp_cons, wp_var, wp_c, wp_nil]
    refine ⟨_, rfl, ?_⟩
    rw [wp_lenT, wp_eqI]
    refine ⟨_, rfl, ?_⟩
    rcases rest4c rest with rfl | ⟨v, rfl⟩ | ⟨im, r, e, rfl⟩ | ⟨n0, n1, n3, hz⟩
    · rw [noSh rfl] at q2
      rw [show decide ((([w, D.int c].length : Nat) : Int) = 3) = false from rfl, if_neg (by decide)]
      exact q2 _ .refl
    · have tv := tm_in t v (by simp)
      have q3 : ∀ h', Fx h h' → Q (.bl ((isS wT w || isS wS w) && (belB 2 (.int c) && cntB 0 v))) h' := q2
      rw [ts, hbel, Bool.true_and, Bool.true_and] at q3
      rw [show decide ((([w, D.int c, v].length : Nat) : Int) = 3) = true from rfl, if_pos rfl]
      simp only [wp_fn, wp_cons, wp_bin, wp_var, wp_c, wp_nil]
      refine ⟨_, rfl, ?_⟩
      rw [ix_2, wp_ok]
      refine ⟨rfl, ?_⟩
      rw [count_eq tv, wp_ok]
      exact q3 _ .refl
    · have q3 : ∀ h', Fx h h' → Q (.bl (isS wP w && (belB 2 (.int c) && (imgB im && wayB r e)))) h' := q2
      rw [pw] at q3
      rw [show decide ((([w, D.int c, im, r, e].length : Nat) : Int) = 3) = false from rfl, if_neg (by decide)]
      exact q3 _ .refl
    · rw [hz] at q2
      rw [decide_eq_false (by simp only [List.length_cons]; omega), if_neg (by decide)]
      exact q2 _ .refl
  | true =>
  obtain ⟨p1, p2⟩ := p_apart pw
  rw [if_neg (by decide), wo_nxS, wo_seqS, wo_ifS]
  simp only [wp_orT, wp_notT, wp_tru, wp_tb, wp_bin, wp_fn, wp_call, wp_cons, wp_var, wp_c, wp_nil]
  refine ⟨_, rfl, ?_⟩
  rw [wp_lenT, wp_neI]
  refine ⟨_, rfl, ?_⟩
  rcases rest4c rest with rfl | ⟨v, rfl⟩ | ⟨im, r, e, rfl⟩ | ⟨n0, n1, n3, hz⟩
  · rw [noSh rfl] at q2
    rw [show decide ((([w, D.int c].length : Nat) : Int) = 5) = false from rfl, if_pos (by decide), if_pos trivial, wo_ret, wp_c]
    exact q2 _ .refl
  · have q3 : ∀ h', Fx h h' → Q (.bl ((isS wT w || isS wS w) && (belB 2 (.int c) && cntB 0 v))) h' := q2
    rw [p1, p2] at q3
    rw [show decide ((([w, D.int c, v].length : Nat) : Int) = 5) = false from rfl, if_pos (by decide), if_pos trivial, wo_ret, wp_c]
    exact q3 _ .refl
  case inr.inr.inr =>
    rw [hz] at q2
    rw [decide_eq_false (by simp only [List.length_cons]; omega), if_pos (by decide), if_pos trivial, wo_ret, wp_c]
    exact q2 _ .refl
  have ti := tm_in t im (by simp)
  have tr := tm_in t r (by simp)
  have te := tm_in t e (by simp)
  have q3 : ∀ h', Fx h h' → Q (.bl (isS wP w && (belB 2 (.int c) && (imgB im && wayB r e)))) h' := q2
  rw [pw, hbel, Bool.true_and, Bool.true_and] at q3
  clear q2
  rw [show decide ((([w, D.int c, im, r, e].length : Nat) : Int) = 5) = true from rfl, if_neg (by decide)]
  refine ⟨_, rfl, ?_⟩
  rw [ix_2, wp_ok]
  refine ⟨rfl, ?_⟩
  rw [limage_eq hn ti, wp_ok]
  refine ⟨_, rfl, ?_⟩
  cases hi : imgB im with
  | false =>
    rw [hi] at q3
    rw [if_pos (by decide), if_pos trivial, wo_ret, wp_c]
    exact q3 _ .refl
  | true =>
  rw [hi, Bool.true_and] at q3
  rw [if_neg (by decide)]
  refine ⟨_, rfl, ?_⟩
  rw [ix_3, wp_ok, isF_tup tr, wp_ok]
  refine ⟨_, rfl, ?_⟩
  rcases tupY (d := r) with ⟨rs, rfl⟩ | e1
  case inr =>
    have : wayB r e = false := by
      cases r with
      | tup rs => cases e1
      | _ => rfl
    rw [this] at q3
    rw [e1, if_pos (by decide), if_pos trivial, wo_ret, wp_c]
    exact q3 _ .refl
  rw [show isT1 (.tup rs) = true from rfl, if_neg (by decide)]
  have I4 : ∀ g, ixD (.tup [w, .int c, im, .tup rs, e]) (.int 4) g = .ok e g := fun g => ix_at (k := 4) (by rfl)
  refine ⟨_, rfl, ?_⟩
  rw [I4, wp_ok, isF_tup te, wp_ok]
  refine ⟨_, rfl, ?_⟩
  rcases tupY (d := e) with ⟨es, rfl⟩ | e1
  case inr =>
    have : wayB (.tup rs) e = false := by
      cases e with
      | tup rs => cases e1
      | _ => rfl
    rw [this] at q3
    rw [e1, if_pos (by decide), wo_ret, wp_c]
    exact q3 _ .refl
  have q4 : ∀ h', Fx h h' → Q (.bl (rs.all (cntB 0) && (es.all (cntB 0) && (decide (rs.length = es.length) && rs.all (belB 2))))) h' := q3
  clear q3
  have lr := tm_len tr
  have le := tm_len te
  rw [show isT1 (.tup es) = true from rfl, if_neg (by decide), wo_nxS, wo_seqS, wo_ifS, wp_orT, wp_tb]
  refine bad_ne (xs := rs ++ es) (f := cntB 0) ?_ (by rw [List.length_append]; omega) (fun z hz h' fx => ?_) fun g1 f1 => ⟨_, rfl, ?_⟩
  · have i3 : ixD (.tup [w, .int c, im, .tup rs, .tup es]) (.int 3) h = .ok (.tup rs) h := ix_3
    have i4 : ixD (.tup [w, .int c, im, .tup rs, .tup es]) (.int 4) h = .ok (.tup es) h := I4 h
    obtain ⟨d, h', e, rfl, rfl⟩ : wp (addD (.tup rs) (.tup es) h) (fun d h' => d = .tup (rs ++ es) ∧ h' = h) := by
      rw [wp_addT]
      exact ⟨by omega, rfl, rfl⟩
    simp [mBin, mVar, mC, R.bind, i3, i4, e]
  · have tz : Tm u b h n z := by
      rcases List.mem_append.mp hz with hz | hz
      · exact tm_in tr z hz
      · exact tm_in te z hz
    have tz := tm_fx fx tz
    show mNotT (mTru (mFn 1 g__law_is_count (mCons (mVar 2) mNil))) [_, _, some z] h' = _
    simp [mNotT, mTru, mFn, mCons, mVar, mNil, R.bind, count_eq tz, truO, truD]
    try rfl
  rw [List.all_append]
  cases c1 : rs.all (cntB 0) with
  | false =>
    rw [c1] at q4
    rw [if_pos (by simp), if_pos rfl, wo_ret, wp_c]
    exact q4 _ f1
  | true =>
  rw [c1, Bool.true_and] at q4
  cases c3 : es.all (cntB 0) with
  | false =>
    rw [c3] at q4
    rw [if_pos (by decide), if_pos rfl, wo_ret, wp_c]
    exact q4 _ f1
  | true =>
  rw [c3, Bool.true_and] at q4
  rw [if_neg (by decide), wp_tb]
  simp only [wp_bin, wp_call, wp_cons, wp_var, wp_c, wp_nil]
  refine ⟨_, rfl, ?_⟩
  rw [ix_3, wp_ok, wp_lenT]
  refine ⟨_, rfl, ?_⟩
  rw [I4, wp_ok, wp_lenT, wp_neI]
  refine ⟨_, rfl, ?_⟩
  by_cases c4 : rs.length = es.length
  case neg =>
    rw [decide_eq_false c4] at q4
    rw [decide_eq_false (by omega), if_pos (by decide), wo_ret, wp_c]
    exact q4 _ f1
  rw [decide_eq_true c4, Bool.true_and] at q4
  rw [decide_eq_true (by omega), if_neg (by decide), wo_nxS, wo_ret]
  refine bad_eq (xs := rs) (f := belB 2) (by simp [mBin, mVar, mC, R.bind, ixD, at3]) (by omega) (fun z hz h' fx => ?_) fun g2 f2 => q4 _ (f1.trans f2)
  obtain ⟨i, rfl, hi0⟩ := cnt_of (List.all_eq_true.mp c1 z hz)
  show mTB (mBin geD (mVar 2) (mCall lenF (mCons (mVar 0) mNil))) [some (netD net2), _, some (.int i)] h' = _
  obtain ⟨bb, g2, e2, rfl, rfl⟩ : wp (mTB (mBin geD (mVar 2) (mCall lenF (mCons (mVar 0) mNil))) [some (netD net2), some (.tup [w, .int c, im, .tup rs, .tup es]), some (.int i)] h') (fun b g2 => b = (!(belB 2 (.int i))) ∧ g2 = h') := by
    simp only [wp_tb, wp_bin, wp_call, wp_cons, wp_var, wp_nil]
    refine ⟨_, rfl, _, rfl, ?_⟩
    rw [wp_lenT, wp_ge]
    refine ⟨_, rfl, ?_, rfl⟩
    rw [belB_int, decide_eq_true hi0, Bool.true_and]
    show decide (2 ≤ i) = !decide (i < 2)
    rw [Bool.eq_iff_iff]
    simp
  exact e2
end
end K11
namespace K11
open PySem PySem.Spec L2 Ml
section
variable {h : Sto} {Q : D → Sto → Prop} {d l w : Int}
theorem wp_popA {mo me : ME} {ρ : Sl} {h : Sto} {Q : D → Sto → Prop} (x : wp (mo ρ h) fun o h1 => ∃ n, o = .ref n ∧ (∃ ys, lstAt h1 n = some ys) ∧ wp (me ρ h1) fun y h2 => ∃ i xs d, y = .int i ∧ lstAt h2 n = some xs ∧ (0 ≤ i ∧ i < 1000000) ∧ xs[i.toNat]? = some d ∧ Q d (h2.set n (.lst (xs.eraseIdx i.toNat)))) : wp (mPopA mo me ρ h) Q := by
  obtain ⟨o, h1, e1, n, rfl, ⟨ys, e2⟩, y, h2, e3, i, xs, d, rfl, e4, hz, e5, q⟩ := x
  refine ⟨d, _, ?_, q⟩
  simp [mPopA, R.bind, e1, e2, e3, e4, hz, e5]
theorem erase_map {f : Int → D} : ∀ {ps : List Int} {k : Nat}, (ps.map f).eraseIdx k = (ps.eraseIdx k).map f
  | [], _ => rfl
  | _ :: _, 0 => rfl
  | x :: t, k + 1 => by simp [erase_map (ps := t) (k := k)]
theorem perm_at : ∀ {ps : List Int} {i : Nat} {a : Int}, ps[i]? = some a → ps.Perm (a :: ps.eraseIdx i)
  | [], _, _, e => by simp at e
  | x :: t, 0, a, e => by
    simp at e
    subst e
    exact List.Perm.refl _
  | x :: t, i + 1, a, e => by
    have h1 := perm_at (ps := t) (i := i) (a := a) (by simpa using e)
    exact (h1.cons x).trans (List.Perm.swap a x _)
theorem perm_pick {ps fs ns : List Int} {i : Nat} {a : Int} (p : (ps ++ fs).Perm ns) (e : ps[i]? = some a) : (ps.eraseIdx i ++ (fs ++ [a])).Perm ns := by
  have h2 : (ps.eraseIdx i ++ (fs ++ [a])).Perm (a :: ps.eraseIdx i ++ fs) := by
    rw [← List.append_assoc]
    exact List.perm_append_comm
  exact h2.trans (((perm_at e).symm.append_right fs).trans p)
def PickI (u k r : Nat) (c : Int) (h : Sto) (ns : List Int) (N : Nat) (i : Nat) (ρ : Sl) (g : Sto) : Prop := ∃ (ps fs : List Int) (v5 : Option D), ρ = [some (.ref u), some (.ref r), some (.int c), some (.ref h.length), some (.ref (h.length + 1)), v5] ∧ Fu u h g ∧ Ur (k + i) u g ∧ lstAt g h.length = some (ps.map D.int) ∧ lstAt g (h.length + 1) = some (fs.map D.int) ∧ (ps ++ fs).Perm ns ∧ fs.length = i ∧ i ≤ N
theorem pick_wp {u k r : Nat} {ns : List Int} {c : Int} (U : Ur k u h) (hr : anyAt h r = some (ns.map D.int)) (hn : ns.length ≤ 100) (hk : k < 100000) (hc : 0 ≤ c)
    (q : ∀ (fs : List Int) (r' : Nat) (h' : Sto), Fu u h h' → Ur (k + c.toNat) u h' → h.length ≤ r' → lstAt h' r' = some (fs.map D.int) → (ns.Nodup → fs.Nodup) → (∀ x ∈ fs, x ∈ ns) → fs.length ≤ ns.length → (fs.length : Int) ≤ c → Q (.ref r') h') : wp (g__law_pick [.ref u, .ref r, .int c] h) Q := by
  have hu := U.lt
  unfold g__law_pick
  refine wp_run ?_
  unfold b__law_pick
  simp [listF, hr]
  refine wo_for ?_
  have a0 : anyAt (h ++ [Cl.lst (List.map D.int ns), Cl.lst []]) h.length = some (ns.map D.int) := any_new
  simp [lenF, minF, rng1F, a0]
  generalize hN : (if (ns.length : Int) < c then (ns.length : Int) else c) = N
  have N1 : 0 ≤ N ∧ N ≤ ns.length ∧ N ≤ c := by split at hN <;> omega
  rw [if_pos (by omega)]
  simp only [wp_ok]
  have ln : (rngL N.toNat).length = N.toNat := rngL_len
  refine wo_loop (rngL N.toNat) (PickI u k r c h ns N.toNat) (fun _ _ _ _ => rng_item) ?_ ?_ _ 0 _ _ (by simp [Wk.len, rngL_len]) (Nat.zero_le _) ?_
  · rintro i d ρ g ed ⟨ps, fs, v5, rfl, f1, U1, p1, p2, pm, fl, hi⟩
    obtain ⟨rfl, hi2⟩ := rng_get ed
    have pl : ps.length + fs.length = ns.length := by rw [← pm.length_eq]; simp
    refine ⟨_, rfl, ?_⟩
    simp
    refine wp_app ?_
    simp
    refine ⟨⟨_, p2⟩, ?_⟩
    refine wp_popA ?_
    simp
    refine ⟨⟨_, p1⟩, ?_⟩
    simp [lenF, lst_any p1]
    refine take_wp U1 (by omega) (by omega) (by omega) fun x g2 x0 x1 f2 U2 l2 => ?_
    have q1 := f2.lst (by omega) p1
    have q2 := f2.lst (by omega) p2
    have xl : x.toNat < ps.length := by omega
    refine ⟨x, rfl, _, q1, ⟨x0, by omega⟩, .int ps[x.toNat], by simp [xl], ?_⟩
    refine ⟨_, lst_other (by omega) q2, by simp; omega, ?_⟩
    have U3 : Ur (k + i + 1) u (g2.set h.length (.lst ((ps.map D.int).eraseIdx x.toNat))) := Ur.putN U2 (by omega)
    refine ⟨ps.eraseIdx x.toNat, fs ++ [ps[x.toNat]], _, rfl, Fu.putN (Fu.putN (f1.trans f2) (Nat.le_refl _)) (by omega), Ur.putN U3 (by omega), ?_, ?_, perm_pick pm (by simp [xl]), by simp [fl], by omega⟩
    · have := lst_other (n := h.length + 1) (c := .lst (fs.map D.int ++ [.int ps[x.toNat]])) (by omega) (lst_put (B := (ps.map D.int).eraseIdx x.toNat) q1)
      rw [this, erase_map]
    · rw [lst_put (lst_other (by omega) q2)]
      simp
  · rintro ρ g ⟨ps, fs, v5, rfl, f1, U1, p1, p2, pm, fl, hi⟩
    rw [ln] at U1 fl
    refine ⟨_, rfl, q fs _ g f1 (Ur.le U1 (by omega)) (by omega) p2 (fun nd => ?_) (fun x hx => pm.mem_iff.mp (List.mem_append_right _ hx)) (by omega) (by omega)⟩
    exact (List.nodup_append.mp (pm.nodup_iff.mpr nd)).2.1
  · refine ⟨ns, [], _, rfl, Fx.more.fu, U.more, lst_new, ?_, by simp, rfl, Nat.zero_le _⟩
    have := lst_new (h := h ++ [Cl.lst (ns.map D.int)]) (xs := []) (l := [])
    simpa using this
end
section
variable {h : Sto} {Q : D → Sto → Prop} {Pn : Sl → Sto → Prop} {u k : Nat}
theorem law_of_wp {r : Nat} {xs : List D} (U : Ur k u h) (hk : k < 900000) (hr : r ≠ u) (e : anyAt h r = some xs) (hx : xs ≠ []) (hl : xs.length ≤ 900000) (q : ∀ x h', x ∈ xs → Fu u h h' → Ur (k + 1) u h' → Q x h') : wp (g__law_of [.ref u, .ref r] h) Q := by
  have hp := List.length_pos_iff.mpr hx
  unfold g__law_of
  refine wp_run ?_
  unfold b__law_of
  simp
  refine ⟨_, e, take_wp U (by omega) (by omega) (by omega) fun d h' d0 d1 f U' _ => ?_⟩
  have e' := f.any hr e
  obtain ⟨n, rfl⟩ := Int.eq_ofNat_of_zero_le d0
  have hn : n < xs.length := by omega
  simp
  exact ⟨_, e', _, atI_nat (List.getElem?_eq_getElem hn), q _ _ (List.getElem_mem hn) f U'⟩
/-- drawn locks -/
structure LkD (x : Lk) : Prop where
  p : x.p = 0 ∨ x.p = 1
  a : 1 ≤ x.a ∧ x.a ≤ 9
  s : 0 ≤ x.s ∧ x.s ≤ 30
  e : 0 ≤ x.e ∧ x.e < 60
def LksI (u k r : Nat) (h : Sto) (fs : List Int) (i : Nat) (ρ : Sl) (g : Sto) : Prop := ∃ (ls : List Lk) (v3 : Option D), ρ = [some (.ref u), some (.int 3), some (.ref h.length), v3] ∧ Fu u h g ∧ Ur (k + 3 * i) u g ∧ lstAt g h.length = some (ls.map Lk.d) ∧ anyAt g r = some (fs.map D.int) ∧ ls.map Lk.s = fs.take i ∧ (∀ x ∈ ls, LkD x) ∧ i ≤ fs.length
theorem locks_wp (U : Ur k u h) (hk : k < 90000) (q : ∀ (ls : List Lk) h', ls.length ≤ 3 → (ls.map Lk.s).Nodup → (∀ x ∈ ls, LkD x) → Fu u h h' → Ur (k + 20) u h' → Q (.tup (ls.map Lk.d)) h') : wp (g__law_locks [.ref u, .int 3] h) Q := by
  have hu := U.lt
  unfold g__law_locks
  refine wp_run ?_
  unfold b__law_locks
  rw [wo_seqS, wo_set]
  simp only [wp_lst, wp_nil]
  refine ⟨by show 0 ≤ 16777216; decide, ?_⟩
  rw [wo_seqS]
  refine wo_for ?_
  simp only [wp_seq, wp_fn, wp_cons, wp_lst, wp_bin, wp_var, wp_c, wp_nil]
  refine ⟨_, rfl, by show 5 ≤ 16777216; decide, _, rfl, _, rfl, ?_⟩
  rw [wp_addI]
  have U0 : Ur k u (h ++ [Cl.lst []] ++ [Cl.lst [.int 0, .int 1, .int 2, .int 7, .int 30]]) := U.more.more
  refine ⟨rfl, take_wp U0 (by omega) (by omega) (by omega) fun c h1 c0 c1 f1 U1 l1 => ?_⟩
  have hl0 : (h ++ [Cl.lst []]).length = h.length + 1 := by simp
  have e0 : lstAt h1 h.length = some [] := f1.lst (by omega) (Fx.more.lst lst_new)
  have e1 : anyAt h1 (h ++ [Cl.lst []]).length = some (([0, 1, 2, 7, 30] : List Int).map D.int) := f1.any (by omega) any_new
  refine ⟨rfl, pick_wp U1 e1 (by decide) (by omega) c0 fun fs r h2 f2 U2 hr er nd fm fl1 fl2 => ?_⟩
  have e2 := f2.lst (by omega) e0
  have l1' : h1.length = h.length + 2 := by simp at l1; omega
  have nd := nd (by decide)
  have er' := lst_any er
  rw [show seqF (.ref r) h2 = .ok (.seq r) h2 by simp [seqF, er'], wp_ok]
  have F2 : Fu u h h2 := ((Fx.more.trans .more).fu.trans f1).trans f2
  have fl3 : fs.length ≤ 3 := by omega
  refine wo_loop (fs.map D.int) (LksI u (k + 1 + c.toNat) r h fs) (fun i ρ g I => ?_) ?_ ?_ _ 0 _ _ (by simp [Wk.len, er']) (Nat.zero_le _) ⟨[], none, rfl, F2, U2, e2, er', rfl, (fun x hx => nomatch hx), Nat.zero_le _⟩
  · obtain ⟨ls, v2, -, -, -, -, e, -⟩ := I
    simp [Wk.item, e]
  · rintro i d ρ g ed ⟨ls, v2, rfl, g1, V1, z1, z2, z3, z4, hi⟩
    obtain ⟨hi2, ed⟩ := List.getElem?_eq_some_iff.mp ed
    simp at hi2 ed
    subst ed
    refine ⟨_, rfl, ?_⟩
    rw [wo_drop]
    refine wp_app ?_
    simp only [wp_var]
    refine ⟨_, rfl, h.length, rfl, ⟨_, z1⟩, ?_⟩
    simp only [wp_tup, wp_fn, wp_cons, wp_bin, wp_var, wp_c, wp_nil]
    refine ⟨_, rfl, rfl, take_wp V1 (by omega) (by omega) (by omega) fun p g2 p0 p1 f3 V2 _ => ?_⟩
    refine ⟨_, rfl, rfl, take_wp V2 (by omega) (by omega) (by omega) fun a g3 a0 a1 f4 V3 _ => ?_⟩
    rw [wp_addI]
    refine ⟨_, rfl, by show 2 ≤ 16777216; decide, _, rfl, rfl, take_wp V3 (by omega) (by omega) (by omega) fun e g4 x0 x1 f5 V4 _ => ?_⟩
    have F5 := (f3.trans f4).trans f5
    have z1' := F5.lst (by omega) z1
    have m := fm _ (List.getElem_mem hi2)
    have m2 : 0 ≤ fs[i] ∧ fs[i] ≤ 30 := by simp at m; omega
    have ll : ls.length = i := by have := congrArg List.length z3; simp at this; omega
    refine ⟨by show 4 ≤ 16777216; decide, _, z1', by simp; omega, ls ++ [⟨p, 1 + a, fs[i], e⟩], _, rfl, Fu.putN (g1.trans F5) (Nat.le_refl _), Ur.putN (Ur.le V4 (by omega)) (by omega), ?_, ?_, ?_, ?_, by omega⟩
    · rw [lst_put z1']; simp
    · have := F5.any (i := r) (by omega) z2
      unfold anyAt at this ⊢
      rw [List.getElem?_set_ne (by omega)]
      exact this
    · rw [List.map_append, z3, List.take_succ]
      simp [hi2]
    · intro x hx
      rcases List.mem_append.mp hx with y | y
      · exact z4 x y
      · rw [List.mem_singleton.mp y]
        exact ⟨by show p = 0 ∨ p = 1; omega, by show 1 ≤ 1 + a ∧ 1 + a ≤ 9; omega, m2, ⟨x0, x1⟩⟩
  · rintro ρ g ⟨ls, v2, rfl, g1, V1, z1, z2, z3, z4, hi⟩
    rw [List.length_map] at V1 z3
    rw [List.take_length] at z3
    simp only [wo_ret, wp_call, wp_cons, wp_var, wp_nil]
    have ll : ls.length = fs.length := by have := congrArg List.length z3; simpa using this
    exact ⟨_, rfl, wp_tupL (lst_any z1) (q ls g (by omega) (by rw [z3]; exact nd) z4 g1 (Ur.le V1 (by omega)))⟩
/-- amounts anew -/
def anew (x : Lk) (a : Int) : Lk := ⟨x.p, a, x.s, x.e⟩
theorem sum_small : ∀ {L : List Lk}, (∀ x ∈ L, 1 ≤ x.a ∧ x.a ≤ 2) → 0 ≤ (L.map Lk.a).sum ∧ (L.map Lk.a).sum ≤ 2 * (L.length : Nat)
  | [], _ => by simp
  | x :: L, h => by
    have h1 := h x (List.mem_cons_self ..)
    have h2 := sum_small (L := L) fun y hy => h y (List.mem_cons_of_mem _ hy)
    simp only [List.map_cons, List.sum_cons, List.length_cons]
    omega
structure FairS (ch nr s0 s1 : Int) (L : List Lk) : Prop where
  hc : ch = 0 ∨ ch = 1
  hn : 1 ≤ nr ∧ nr ≤ 9
  h0 : 0 ≤ s0 ∧ s0 ≤ 15
  h1 : 0 ≤ s1 ∧ s1 ≤ 15
  len : L.length ≤ 3
  nd : (L.map Lk.s).Nodup
  l : ∀ x ∈ L, (x.p = 0 ∨ x.p = 1) ∧ (1 ≤ x.a ∧ x.a ≤ 2) ∧ (0 ≤ x.s ∧ x.s ≤ 30) ∧ (0 ≤ x.e ∧ x.e < 60)
  sum : s0 + s1 + (L.map Lk.a).sum = nearI ch + farI ch
abbrev shtD (c n s0 s1 : Int) (L : List Lk) : D := .tup [.int c, .int n, .tup [.int s0, .int s1], .tup (L.map Lk.d)]
theorem net_eq {h : Sto} : g__law_net [] h = .ok (netD net2) h := by kernel_rfl
theorem fair_sheet_wp (U : Ur k u h) (hk : k < 80000) (q : ∀ (ch nr s0 s1 : Int) (L : List Lk) h', FairS ch nr s0 s1 L → Fu u h h' → Ur (k + 40) u h' → Q (shtD ch nr s0 s1 L) h') : wp (g__law_fair_sheet [.ref u] h) Q := by
  have hu := U.lt
  unfold g__law_fair_sheet
  refine wp_run ?_
  unfold b__law_fair_sheet
  rw [wo_seqS, wo_set]
  simp only [wp_fn, wp_cons, wp_var, wp_c, wp_nil]
  refine ⟨_, rfl, rfl, take_wp U (by omega) (by decide) (by decide) fun ch h1 c0 c1 f1 U1 _ => ?_⟩
  rw [wo_seqS, wo_set]
  simp only [wp_call, wp_cons, wp_nil]
  unfold mLc
  rw [wp_bind]
  simp only [wp_seq, wp_fn, wp_cons, wp_var, wp_c, wp_nil]
  refine ⟨_, rfl, rfl, locks_wp U1 (by omega) fun ls h2 hl nd ok f2 U2 => ?_⟩
  rw [show seqF (.tup (ls.map Lk.d)) h2 = .ok (.tup (ls.map Lk.d)) h2 from rfl, wp_ok, wp_bind]
  have hu2 := U2.lt
  refine wp_loopC_inv (ls.map Lk.d) (fun i acc g => i ≤ ls.length ∧ ∃ L : List Lk, acc = L.map Lk.d ∧ L.length = i ∧ L.map Lk.s = (ls.map Lk.s).take i ∧ (∀ x ∈ L, (x.p = 0 ∨ x.p = 1) ∧ (1 ≤ x.a ∧ x.a ≤ 2) ∧ (0 ≤ x.s ∧ x.s ≤ 30) ∧ (0 ≤ x.e ∧ x.e < 60)) ∧ lstAt g h2.length = some acc ∧ Fu u h2 g ∧ Ur (k + 21 + i) u g) (fun i acc g I => rfl) (fun i acc g I => by obtain ⟨hi, L, rfl, el, -⟩ := I; simp; omega) ?_ ?_ _ 0 [] _ (by simp [Wk.len]) (Nat.zero_le _) ⟨Nat.zero_le _, [], rfl, rfl, rfl, (fun x hx => nomatch hx), lst_new, Fx.more.fu, Ur.le U2.more (by omega)⟩
  · rintro i z acc g ez ⟨hi, L, rfl, el, es, lok, e0, f3, U3⟩
    rw [List.getElem?_map] at ez
    cases ex : ls[i]? with
    | none => rw [ex] at ez; cases ez
    | some x =>
      rw [ex] at ez
      cases ez
      have hi2 := (List.getElem?_eq_some_iff.mp ex).1
      have xo := ok x (List.mem_of_getElem? ex)
      refine ⟨_, rfl, wp_yes.2 ⟨fun _ => ?_, fun z => nomatch z⟩⟩
      simp only [wp_bin, wp_tup, wp_fn, wp_cons, wp_sl, wp_part, wp_noP, wp_var, wp_c, wp_nil]
      refine ⟨_, rfl, 1, rfl, ?_⟩
      rw [wp_slT, show cutD [D.int x.p, .int x.a, imD x.s, .int x.e] none (some 1) = [.int x.p] from rfl]
      refine ⟨_, rfl, rfl, take_wp U3 (by omega) (by decide) (by decide) fun a g2 a0 a1 f4 U4 l4 => ?_⟩
      rw [wp_addI]
      refine ⟨by show 1 ≤ 16777216; decide, ?_⟩
      rw [wp_addT]
      refine ⟨by show 1 + 1 ≤ 16777216; decide, _, rfl, 2, rfl, ?_⟩
      rw [wp_slT, show cutD [D.int x.p, .int x.a, imD x.s, .int x.e] (some 2) none = [imD x.s, .int x.e] from rfl, wp_addT]
      refine ⟨by show 2 + 2 ≤ 16777216; decide, ?_⟩
      have e0' := f4.lst (by omega) e0
      refine ⟨e0', by omega, L ++ [anew x (1 + a)], by simp [anew], by simp [el], ?_, fun y hy => ?_, lst_put e0', Fu.putN (f3.trans f4) (Nat.le_refl _), Ur.putN (Ur.le U4 (by omega)) (by omega)⟩
      · rw [List.map_append, es, List.take_succ, List.getElem?_map, ex]; rfl
      · rcases List.mem_append.mp hy with hy | hy
        · exact lok y hy
        · rw [List.mem_singleton.mp hy]
          exact ⟨xo.p, by show 1 ≤ 1 + a ∧ 1 + a ≤ 2; omega, xo.s, xo.e⟩
  · rintro acc g ⟨hi, L, rfl, el, es, lok, e0, f3, U3⟩
    rw [List.length_map] at el es U3
    rw [wp_ok]
    refine wp_tupL (lst_any e0) ?_
    have es : L.map Lk.s = ls.map Lk.s := by rw [es]; exact List.take_of_length_le (by simp)
    rw [wo_seqS, wo_set]
    simp only [wp_bin, wp_call, wp_cons, wp_nil, wp_sl, wp_part, wp_noP, wp_fn0, wp_var, wp_c]
    rw [net_eq, wp_ok]
    obtain ⟨cc, kk, ek, rfl, en, ef⟩ : ∃ (cc : Ch) (k : Nat), net2[k]? = some cc ∧ ch = (k : Nat) ∧ cc.c0 = nearI ch ∧ cc.c1 = farI ch := by
      rcases (show ch = 0 ∨ ch = 1 by omega) with rfl | rfl
      · exact ⟨_, 0, rfl, rfl, rfl, rfl⟩
      · exact ⟨_, 1, rfl, rfl, rfl, rfl⟩
    refine ⟨_, rfl, ?_⟩
    have IX : ixD (netD net2) (.int (kk : Nat)) g = .ok cc.d g := by
      have := atI_nat (xs := net2.map Ch.d) (j := kk) (v := cc.d) (by rw [List.getElem?_map, ek]; rfl)
      simp only [ixD]
      rw [this]
    rw [IX, wp_ok]
    refine ⟨2, rfl, ?_⟩
    rw [wp_slT, show cutD [D.int cc.p0, .int cc.p1, .int cc.c0, .int cc.c1] (some 2) none = [.int cc.c0, .int cc.c1] from rfl]
    refine wp_sumT (is := [cc.c0, cc.c1]) rfl ?_
    refine wp_lcT (L.map Lk.d) (fun y => match y with | .tup [_, a, _, _] => a | _ => .non) (by simp [mVar]) (by simp; omega) (fun y hy h' fx => ?_) fun l4 => ?_
    · obtain ⟨x, hx, rfl⟩ := List.mem_map.mp hy
      refine ⟨_, rfl, ?_⟩
      simp [wipeD, ixD, at1, Fx.refl]
    have e4 : (L.map Lk.d).map (fun y => match y with | .tup [_, a, _, _] => a | _ => .non) = (L.map Lk.a).map D.int := by
      rw [List.map_map, List.map_map]; rfl
    rw [e4]
    refine wp_sumL any_new (allInt_id _) ?_
    have f4 : Fx g (g ++ Cl.lst ((L.map Lk.a).map D.int) :: l4) := .more
    have U4 : Ur (k + 21 + ls.length) u (g ++ Cl.lst ((L.map Lk.a).map D.int) :: l4) := f4.ur U3
    generalize g ++ Cl.lst ((L.map Lk.a).map D.int) :: l4 = g4 at f4 U4 ⊢
    rw [wp_sub, show [cc.c0, cc.c1].sum = nearI (kk : Nat) + farI (kk : Nat) by simp [en, ef]]
    have ss := sum_small (L := L) fun x hx => (lok x hx).2.1
    have nf : 8 ≤ nearI (kk : Nat) + farI (kk : Nat) ∧ nearI (kk : Nat) + farI (kk : Nat) ≤ 15 := by
      unfold nearI farI
      split <;> omega
    generalize hsum : (L.map Lk.a).sum = sm at ss ⊢
    generalize hleft : nearI (kk : Nat) + farI (kk : Nat) - sm = left
    rw [wo_seqS, wo_set]
    simp only [wp_fn, wp_cons, wp_bin, wp_var, wp_c, wp_nil]
    refine ⟨_, rfl, _, rfl, ?_⟩
    rw [wp_addI]
    refine ⟨rfl, take_wp U4 (by omega) (by omega) (by omega) fun one g5 o0 o1 f5 U5 _ => ?_⟩
    rw [wo_ret]
    simp only [wp_tup, wp_fn, wp_cons, wp_bin, wp_var, wp_c, wp_nil]
    refine ⟨_, rfl, _, rfl, rfl, take_wp U5 (by omega) (by decide) (by decide) fun nr g6 n0 n1 f6 U6 _ => ?_⟩
    rw [wp_addI]
    refine ⟨_, rfl, _, rfl, _, rfl, ?_⟩
    rw [wp_sub]
    refine ⟨by show 2 ≤ 16777216; decide, _, rfl, by show 4 ≤ 16777216; decide, ?_⟩
    exact q (kk : Nat) (1 + nr) one (left - one) L g6 ⟨by omega, by omega, by omega, by omega, by omega, by rw [es]; exact nd, lok, by rw [hsum]; omega⟩ (((f1.trans f2).trans (f3.trans f4.fu)).trans (f5.trans f6)) (Ur.le U6 (by omega))
end
end K11
namespace K11
open PySem PySem.Spec L2 Ml
/-! ### data by levels: how long a tuple may be -/
def β : Nat → Nat
  | 1 => 3
  | 2 => 5
  | 3 => 4
  | 4 => 5
  | _ => 6
def fw : List Str := [wO, wA, wT, wS, wP, wI]
theorem fw_lay : ∀ s ∈ fw, (PyData.str s).canLay0 = true := by
  intro s hs
  simp only [fw, List.mem_cons, List.not_mem_nil, or_false] at hs
  rcases hs with rfl | rfl | rfl | rfl | rfl | rfl <;> kernel_rfl
/-- fair data -/
def Fr : Nat → D → Prop
  | 0, d => match d with
    | .int i => 0 ≤ i ∧ i < 64
    | .str s => s ∈ fw
    | _ => False
  | n + 1, d => match d with
    | .int i => 0 ≤ i ∧ i < 64
    | .str s => s ∈ fw
    | .tup xs => xs.length + 1 ≤ β (n + 1) ∧ ∀ x ∈ xs, Fr n x
    | _ => False
/-- any data, by levels -/
def Tv (u : Nat) (h : Sto) : Nat → D → Prop
  | 0, d => match d with
    | .non => True
    | .bl _ => True
    | .int _ => True
    | .str s => (PyData.str s).canLay0 = true
    | _ => False
  | n + 1, d => match d with
    | .non => True
    | .bl _ => True
    | .int _ => True
    | .str s => (PyData.str s).canLay0 = true
    | .tup xs => xs.length ≤ β (n + 1) ∧ ∀ x ∈ xs, Tv u h n x
    | .ref r => r ≠ u ∧ ∃ xs, anyAt h r = some xs ∧ xs.length ≤ β (n + 1) ∧ ∀ x ∈ xs, Tv u h n x
    | .ty _ => False
theorem β_le : ∀ n, β n ≤ 6
  | 0 => by decide
  | 1 => by decide
  | 2 => by decide
  | 3 => by decide
  | 4 => by decide
  | _ + 5 => by show 6 ≤ 6; decide
section
variable {h h' : Sto} {Q : D → Sto → Prop} {u n k : Nat} {d : D}
theorem tv_fu (f : Fu u h h') : ∀ {n : Nat} {d : D}, Tv u h n d → Tv u h' n d
  | 0, d, t => by cases d <;> exact t
  | n + 1, d, t => by
    cases d with
    | tup xs => exact ⟨t.1, fun x hx => tv_fu f (t.2 x hx)⟩
    | ref r =>
      obtain ⟨ne, xs, e, hl, ha⟩ := t
      exact ⟨ne, xs, f.any ne e, hl, fun x hx => tv_fu f (ha x hx)⟩
    | _ => exact t
theorem tv_tm : ∀ {n : Nat} {d : D}, Tv u h n d → Tm u 6 h n d
  | 0, d, t => by cases d <;> exact t
  | n + 1, d, t => by
    have := β_le (n + 1)
    cases d with
    | tup xs => exact ⟨by have := t.1; omega, fun x hx => tv_tm (t.2 x hx)⟩
    | ref r =>
      obtain ⟨ne, xs, e, hl, ha⟩ := t
      exact ⟨ne, xs, e, by omega, fun x hx => tv_tm (ha x hx)⟩
    | _ => exact t
theorem fr_tv : ∀ {n : Nat} {d : D}, Fr n d → Tv u h n d
  | 0, d, t => by
    cases d with
    | int i => exact trivial
    | str s => exact fw_lay s t
    | _ => exact t.elim
  | n + 1, d, t => by
    cases d with
    | int i => exact trivial
    | str s => exact fw_lay s t
    | tup xs => exact ⟨by have := t.1; omega, fun x hx => fr_tv (t.2 x hx)⟩
    | _ => exact t.elim
theorem tv_few (t : Tv u h 5 d) : Few d := by
  rintro w c nr s ls rfl
  have t1 : Tv u h 4 (.tup [c, nr, s, .tup ls]) := t.2 _ (by simp)
  have t2 : Tv u h 3 (.tup ls) := t1.2 _ (by simp)
  exact t2.1
/-! ### a value bent -/
theorem dig_lay : ∀ n : Fin 64, (PyData.str (toString ((n.val : Nat) : Int))).canLay0 = true := by decide +kernel
theorem dig_ok {i : Int} (h0 : 0 ≤ i) (h1 : i < 64) : (PyData.str (toString i)).canLay0 = true := by
  obtain ⟨n, rfl⟩ := Int.eq_ofNat_of_zero_le h0
  exact dig_lay ⟨n, by omega⟩
theorem bent_str {s : Str} {kk : Nat} (U : Ur kk u h) (hk : kk < 800000) (q : ∀ d' h', Tv u h' n d' → Fu u h h' → Ur (kk + 1) u h' → Q d' h') : wp (g__law_bent' (k + 1) [.ref u, .str s] h) Q := by
  show wp (runM 3 (b__law_bent (g__law_bent' k)) [.ref u, .str s] h) Q
  have hu := U.lt
  refine wp_run ?_
  unfold b__law_bent
  rw [wo_seqS, wo_ifS, wp_andT]
  simp only [wp_tru, wp_call, wp_cons, wp_var, wp_c, wp_nil]
  refine ⟨_, rfl, ?_⟩
  rw [show isF [.str s, .ty .tuple] h = .ok (.bl false) h from rfl, wp_ok]
  refine ⟨_, rfl, ?_⟩
  rw [if_neg (by decide), if_neg (by decide), wo_nxS, wo_seqS, wo_ifS]
  simp only [wp_tru, wp_call, wp_cons, wp_var, wp_c, wp_nil]
  refine ⟨_, rfl, ?_⟩
  rw [show isF [.str s, .ty .tuple] h = .ok (.bl false) h from rfl, wp_ok]
  refine ⟨_, rfl, ?_⟩
  rw [if_neg (by decide), wo_nxS, wo_seqS, wo_ifS]
  simp only [wp_tru, wp_call, wp_cons, wp_var, wp_c, wp_nil]
  refine ⟨_, rfl, ?_⟩
  rw [show isF [.str s, .ty .int] h = .ok (.bl false) h from rfl, wp_ok]
  refine ⟨_, rfl, ?_⟩
  rw [if_neg (by decide), wo_nxS, wo_ret]
  simp only [wp_fn, wp_lst, wp_cons, wp_var, wp_c, wp_nil]
  refine ⟨_, rfl, by show 8 ≤ 16777216; decide, rfl, law_of_wp U.more (by omega) (by omega) any_new (by simp) (by show 8 ≤ 900000; decide) fun x h' hx f U1 => q x h' ?_ (Fx.more.fu.trans f) U1⟩
  have lay : ∀ s ∈ fw ++ [PySem.Str.ofString ""], (PyData.str s).canLay0 = true := fun s hs => by
    rcases List.mem_append.mp hs with hs | hs
    · exact fw_lay s hs
    · rw [List.mem_singleton.mp hs]; kernel_rfl
  have ts : ∀ s ∈ fw ++ [PySem.Str.ofString ""], Tv u h' n (.str s) := fun s hs => by
    cases n <;> exact lay s hs
  simp only [List.mem_cons, List.not_mem_nil, or_false] at hx
  rcases hx with rfl | rfl | rfl | rfl | rfl | rfl | rfl | rfl
  · exact ts _ (by simp [fw])
  · exact ts _ (by simp [fw])
  · exact ts _ (by simp [fw])
  · exact ts _ (by simp [fw])
  · exact ts _ (by simp [fw])
  · exact ts _ (by simp [fw])
  · exact ts _ (by simp [fw])
  · cases n <;> exact trivial
theorem bent_int {i : Int} {kk : Nat} (U : Ur kk u h) (hk : kk < 800000) (h0 : 0 ≤ i) (h1 : i < 64) (q : ∀ d' h', Tv u h' n d' → Fu u h h' → Ur (kk + 1) u h' → Q d' h') : wp (g__law_bent' (k + 1) [.ref u, .int i] h) Q := by
  show wp (runM 3 (b__law_bent (g__law_bent' k)) [.ref u, .int i] h) Q
  have hu := U.lt
  refine wp_run ?_
  unfold b__law_bent
  rw [wo_seqS, wo_ifS, wp_andT]
  simp only [wp_tru, wp_call, wp_cons, wp_var, wp_c, wp_nil]
  refine ⟨_, rfl, ?_⟩
  rw [show isF [.int i, .ty .tuple] h = .ok (.bl false) h from rfl, wp_ok]
  refine ⟨_, rfl, ?_⟩
  rw [if_neg (by decide), if_neg (by decide), wo_nxS, wo_seqS, wo_ifS]
  simp only [wp_tru, wp_call, wp_cons, wp_var, wp_c, wp_nil]
  refine ⟨_, rfl, ?_⟩
  rw [show isF [.int i, .ty .tuple] h = .ok (.bl false) h from rfl, wp_ok]
  refine ⟨_, rfl, ?_⟩
  rw [if_neg (by decide), wo_nxS, wo_seqS, wo_ifS]
  simp only [wp_tru, wp_call, wp_cons, wp_var, wp_c, wp_nil]
  refine ⟨_, rfl, ?_⟩
  rw [show isF [.int i, .ty .int] h = .ok (.bl true) h from rfl, wp_ok]
  refine ⟨_, rfl, ?_⟩
  rw [if_pos rfl, wo_ret]
  simp only [wp_fn, wp_lst, wp_cons, wp_bin, wp_neg, wp_call, wp_var, wp_c, wp_nil]
  refine ⟨_, rfl, _, rfl, ?_⟩
  rw [wp_addI]
  refine ⟨_, rfl, ?_⟩
  rw [wp_sub]
  rw [show negD (.int 1) h = .ok (.int (-1)) h from rfl, wp_ok]
  refine ⟨_, rfl, ?_⟩
  have lg : i.natAbs.log2 < 1920 := by
    have : i.natAbs < 2 ^ 1920 := by
      have : i.natAbs < 64 := by omega
      have : (2 : Nat) ^ 6 ≤ 2 ^ 1920 := Nat.pow_le_pow_right (by decide) (by decide)
      omega
    by_cases z : i.natAbs = 0
    · rw [z]; decide
    · exact (Nat.log2_lt z).mpr this
  rw [show strN [.int i] h = .ok (.str (toString i)) h by simp [strN, lg], wp_ok]
  refine ⟨by show 8 ≤ 16777216; decide, rfl, law_of_wp U.more (by omega) (by omega) any_new (by simp) (by show 8 ≤ 900000; decide) fun x h' hx f U1 => q x h' ?_ (Fx.more.fu.trans f) U1⟩
  simp only [List.mem_cons, List.not_mem_nil, or_false] at hx
  rcases hx with rfl | rfl | rfl | rfl | rfl | rfl | rfl | rfl
  · cases n <;> exact trivial
  · cases n <;> exact trivial
  · cases n <;> exact trivial
  · cases n <;> exact trivial
  · cases n <;> exact trivial
  · cases n <;> exact trivial
  · cases n <;> exact trivial
  · have := dig_ok h0 h1
    cases n <;> exact this
theorem cut_init {xs : List D} : cutD xs none (some (-1)) = xs.take (xs.length - 1) := by
  unfold cutD
  rw [HT.sIx_none]
  have : HT.sIx xs.length xs.length (some (-1)) = xs.length - 1 := by
    unfold HT.sIx
    simp
    omega
  rw [this]
  simp
theorem cut_to {xs : List D} {c : Nat} (hc : c < xs.length) : cutD xs none (some (c : Int)) = xs.take c := by
  unfold cutD
  rw [HT.sIx_none, HT.sIx_nat]
  simp
  try omega
theorem cut_from {xs : List D} {c : Nat} (hc : c < xs.length) : cutD xs (some ((c : Int) + 1)) none = xs.drop (c + 1) := by
  unfold cutD
  rw [show (c : Int) + 1 = ((c + 1 : Nat) : Int) by omega, HT.sIx_none, HT.sIx_nat]
  rw [show min (c + 1) xs.length = c + 1 by omega]
  exact List.take_of_length_le (by simp)
theorem bent_wp : ∀ (n : Nat) (d : D) (k kk : Nat) (h : Sto) (Q : D → Sto → Prop), Fr n d → n < k → n ≤ 10 → Ur kk u h → kk + 5 * n < 700000 → (∀ d' h', Tv u h' n d' → Fu u h h' → Ur (kk + 5 * (n + 1)) u h' → Q d' h') → wp (g__law_bent' k [.ref u, d] h) Q
  | n, d, 0, _, _, _, _, hk, _, _, _, _ => absurd hk (by omega)
  | 0, d, k + 1, kk, h, Q, fr, _, _, U, hb, q => by
    cases d with
    | int i => exact bent_int U (by omega) fr.1 fr.2 fun d' h' t f U1 => q d' h' t f (Ur.le U1 (by omega))
    | str s => exact bent_str U (by omega) fun d' h' t f U1 => q d' h' t f (Ur.le U1 (by omega))
    | _ => exact fr.elim
  | n + 1, d, k + 1, kk, h, Q, fr, hk, h10, U, hb, q => by
    cases d with
    | int i => exact bent_int U (by omega) fr.1 fr.2 fun d' h' t f U1 => q d' h' t f (Ur.le U1 (by omega))
    | str s => exact bent_str U (by omega) fun d' h' t f U1 => q d' h' t f (Ur.le U1 (by omega))
    | tup xs =>
      have hu := U.lt
      obtain ⟨xl, xf⟩ := fr
      have b6 := β_le (n + 1)
      have tx : ∀ g, ∀ x ∈ xs, Tv u g n x := fun g x hx => fr_tv (xf x hx)
      show wp (runM 3 (b__law_bent (g__law_bent' k)) [.ref u, .tup xs] h) Q
      refine wp_run ?_
      unfold b__law_bent
      rw [wo_seqS, wo_ifS, wp_andT]
      simp only [wp_tru, wp_call, wp_cons, wp_var, wp_c, wp_nil]
      refine ⟨_, rfl, ?_⟩
      rw [show isF [.tup xs, .ty .tuple] h = .ok (.bl true) h from rfl, wp_ok]
      refine ⟨_, rfl, ?_⟩
      rw [if_pos rfl, wp_andT, wp_tb]
      simp only [wp_bin, wp_tup, wp_var, wp_nil]
      refine ⟨_, rfl, by show 0 ≤ 16777216; decide, ?_⟩
      have tm : Tm u 6 h (n + 1) (.tup xs) := tv_tm (⟨by omega, tx h⟩ : Tv u h (n + 1) (.tup xs))
      -- what follows where it is bent as a whole
      have whole : ∀ (g : Sto) (kk2 : Nat), Ur kk2 u g → kk2 ≤ kk + 1 → Fu u h g → wo (mSeqS (mIfS (mTru (mCall isF (mCons (mVar 1) (mCons (mC (.ty .tuple)) mNil)))) (mRet (mFn 2 g__law_of (mCons (mVar 0) (mCons (mLst (mCons (mCall listF (mCons (mVar 1) mNil)) (mCons (mBin addD (mVar 1) (mTup (mCons (mC (.int 0)) mNil))) (mCons (mSl (mVar 1) mNoP (mPart (mNeg (mC (.int 1))))) (mCons (mRevX (mVar 1)) (mCons (mC .non) mNil)))))) mNil)))) mNx) (mSeqS (mIfS (mTru (mCall isF (mCons (mVar 1) (mCons (mC (.ty .int)) mNil)))) (mRet (mFn 2 g__law_of (mCons (mVar 0) (mCons (mLst (mCons (mBin addD (mVar 1) (mC (.int 1))) (mCons (mBin (int2 subF) (mVar 1) (mC (.int 1))) (mCons (mNeg (mC (.int 1))) (mCons (mC (.bl true)) (mCons (mC (.int 0)) (mCons (mC (.int 2)) (mCons (mC .non) (mCons (mCall strN (mCons (mVar 1) mNil)) mNil))))))))) mNil)))) mNx) (mRet (mFn 2 g__law_of (mCons (mVar 0) (mCons (mLst (mCons (mC (.str (PySem.Str.ofString "offer"))) (mCons (mC (.str (PySem.Str.ofString "agree"))) (mCons (mC (.str (PySem.Str.ofString "turn"))) (mCons (mC (.str (PySem.Str.ofString "secret"))) (mCons (mC (.str (PySem.Str.ofString "pass"))) (mCons (mC (.str (PySem.Str.ofString "image"))) (mCons (mC (.str (PySem.Str.ofString ""))) (mCons (mC .non) mNil))))))))) mNil))))) [some (.ref u), some (.tup xs), none] g) (fun _ h' => Q .non h') Q := fun g kk2 U2 hk2 fg => by
        have hu2 := U2.lt
        rw [wo_seqS, wo_ifS]
        simp only [wp_tru, wp_call, wp_cons, wp_var, wp_c, wp_nil]
        refine ⟨_, rfl, ?_⟩
        rw [show isF [.tup xs, .ty .tuple] g = .ok (.bl true) g from rfl, wp_ok]
        refine ⟨_, rfl, ?_⟩
        rw [if_pos rfl, wo_ret]
        simp only [wp_fn, wp_lst, wp_cons, wp_bin, wp_tup, wp_sl, wp_part, wp_noP, wp_neg, wp_call, wp_var, wp_c, wp_nil]
        refine ⟨_, rfl, _, rfl, ?_⟩
        rw [show listF [.tup xs] g = .ok (.ref g.length) (g ++ [.lst xs]) from rfl, wp_ok]
        refine ⟨_, rfl, by show 1 ≤ 16777216; decide, ?_⟩
        rw [wp_addT]
        refine ⟨by simp only [List.length_cons, List.length_nil]; omega, _, rfl, ?_⟩
        rw [show negD (.int 1) (g ++ [.lst xs]) = .ok (.int (-1)) (g ++ [.lst xs]) from rfl, wp_ok]
        refine ⟨_, rfl, ?_⟩
        rw [wp_slT, cut_init]
        have rv : mRevX (mVar 1) [some (.ref u), some (.tup xs), none] (g ++ [.lst xs]) = .ok (.tup xs.reverse) (g ++ [.lst xs]) := by
          simp [mRevX, mVar, R.bind, revX]
        rw [rv, wp_ok]
        refine ⟨by show 5 ≤ 16777216; decide, rfl, law_of_wp U2.more.more (by omega) (by simp; omega) any_new (by simp) (by show 5 ≤ 900000; decide) fun x h' hx f U3 => ?_⟩
        have F : Fu u h h' := fg.trans ((Fx.more.trans .more).fu.trans f)
        refine q x h' ?_ F (Ur.le U3 (by omega))
        simp only [List.mem_cons, List.not_mem_nil, or_false] at hx
        rcases hx with rfl | rfl | rfl | rfl | rfl
        · exact ⟨by omega, xs, f.any (by omega) (Fx.any .more any_new), by omega, tx h'⟩
        · refine ⟨by rw [List.length_append]; simp only [List.length_cons, List.length_nil]; omega, fun x hx => ?_⟩
          rcases List.mem_append.mp hx with hx | hx
          · exact tx h' x hx
          · rw [List.mem_singleton.mp hx]; cases n <;> exact trivial
        · exact ⟨by rw [List.length_take]; omega, fun x hx => tx h' x (List.mem_of_mem_take hx)⟩
        · exact ⟨by rw [List.length_reverse]; omega, fun x hx => tx h' x (List.mem_reverse.mp hx)⟩
        · exact trivial
      rw [ne_nil (by omega) tm, wp_ok]
      refine ⟨_, rfl, ?_⟩
      cases xs with
      | nil =>
        rw [show (!([] : List D).isEmpty) = false from rfl, if_neg (by decide), if_neg (by decide), wo_nxS]
        exact whole h kk U (by omega) (Fx.refl.fu)
      | cons x0 xr =>
      rw [show (!(x0 :: xr).isEmpty) = true from rfl, if_pos rfl, wp_tb]
      simp only [wp_bin, wp_fn, wp_cons, wp_var, wp_c, wp_nil]
      refine ⟨_, rfl, rfl, take_wp U (by omega) (by decide) (by decide) fun a g1 a0 a1 f1 U1 _ => ?_⟩
      rw [wp_gt]
      refine ⟨_, rfl, ?_⟩
      by_cases c : 0 < a
      case neg =>
        rw [decide_eq_false c, if_neg (by decide), wo_nxS]
        exact whole g1 (kk + 1) U1 (by omega) f1
      rw [decide_eq_true c, if_pos rfl, wo_seqS, wo_set]
      simp only [wp_fn, wp_cons, wp_call, wp_var, wp_nil]
      refine ⟨_, rfl, _, rfl, ?_⟩
      rw [wp_lenT]
      refine ⟨rfl, take_wp U1 (by omega) (by simp) (by simp only [List.length_cons] at xl ⊢; omega) fun j g2 j0 j1 f2 U2 _ => ?_⟩
      obtain ⟨j, rfl⟩ := Int.eq_ofNat_of_zero_le j0
      have jl : j < (x0 :: xr).length := by omega
      rw [wo_ret]
      simp only [wp_bin, wp_sl, wp_part, wp_noP, wp_tup, wp_fn, wp_cons, wp_var, wp_c, wp_nil]
      refine ⟨_, rfl, _, rfl, _, rfl, ?_⟩
      rw [wp_slT, cut_to jl]
      refine ⟨_, rfl, _, rfl, _, rfl, ?_⟩
      rw [wp_ixT]
      refine ⟨(x0 :: xr)[j], atI_nat (List.getElem?_eq_getElem jl), rfl, ?_⟩
      refine bent_wp n _ k (kk + 2) g2 _ (xf _ (List.getElem_mem jl)) (by omega) (by omega) U2 (by omega) fun d' g3 td f3 U3 => ?_
      refine ⟨by show 1 ≤ 16777216; decide, ?_⟩
      have tl : ((x0 :: xr).take j).length = j := by rw [List.length_take]; omega
      rw [wp_addT]
      refine ⟨by simp only [List.length_cons, List.length_nil] at tl ⊢; omega, _, rfl, _, rfl, ?_⟩
      rw [wp_addI]
      refine ⟨_, rfl, ?_⟩
      rw [wp_slT, cut_from jl, wp_addT]
      have dl : ((x0 :: xr).drop (j + 1)).length = (x0 :: xr).length - (j + 1) := List.length_drop
      refine ⟨by rw [List.length_append, tl, dl]; simp only [List.length_cons, List.length_nil] at xl jl ⊢; omega, ?_⟩
      refine q _ g3 ⟨?_, fun y hy => ?_⟩ (f1.trans (f2.trans f3)) (Ur.le U3 (by omega))
      · rw [List.length_append, List.length_append, tl, dl]
        simp only [List.length_cons, List.length_nil] at xl jl ⊢
        omega
      · rcases List.mem_append.mp hy with hy | hy
        · rcases List.mem_append.mp hy with hy | hy
          · exact tx g3 y (List.mem_of_mem_take hy)
          · rw [List.mem_singleton.mp hy]; exact td
        · exact tx g3 y (List.mem_of_mem_drop hy)
    | _ => exact fr.elim
end
end K11
namespace K11
open PySem PySem.Spec L2 Ml
/-! ### a fair letter -/
structure FairL (d : D) (ch : Int) : Prop where
  b : letB d = true
  f : Fr 5 d
  c : (∃ w rest, d = .tup [.str w, .tup (.int ch :: rest)] ∧ (w = wO ∨ w = wA)) ∨ (∃ w rest, d = .tup (.str w :: .int ch :: rest) ∧ (w = wT ∨ w = wS ∨ w = wP))
theorem isS_self {w : Str} : isS w (.str w) = true := decide_eq_true rfl
theorem belB_ok {i : Int} (h0 : 0 ≤ i) (h1 : i < 2) : belB 2 (.int i) = true := by rw [belB_int, decide_eq_true h0, decide_eq_true h1]; rfl
theorem cntB_ok {l i : Int} (h : l ≤ i) : cntB l (.int i) = true := decide_eq_true h
theorem lkB_ok {x : Lk} (hp : x.p = 0 ∨ x.p = 1) (ha : 1 ≤ x.a) (hs : 0 ≤ x.s) (he : 0 ≤ x.e) : lkB x.d = true := by
  show lkB (.tup [.int x.p, .int x.a, imD x.s, .int x.e]) = true
  rw [lkB_four, imgB_two, belB_ok (by omega) (by omega), cntB_ok ha, cntB_ok hs, cntB_ok he, isS_self]
  rfl
theorem shB_fair {ch nr s0 s1 : Int} {L : List Lk} (F : FairS ch nr s0 s1 L) : shB (shtD ch nr s0 s1 L) = true := by
  have h1 := F.hc
  have h2 := F.hn
  have h3 := F.h0
  have h4 := F.h1
  show shB (.tup [.int ch, .int nr, .tup [.int s0, .int s1], .tup (L.map Lk.d)]) = true
  rw [shB_four, twoB_two, lksB_tup, sec_map, belB_ok (by omega) (by omega), cntB_ok (by omega), cntB_ok (by omega), cntB_ok (by omega), decide_eq_true F.nd]
  have al : (L.map Lk.d).all lkB = true := by
    rw [List.all_eq_true]
    intro d hd
    obtain ⟨x, hx, rfl⟩ := List.mem_map.mp hd
    obtain ⟨a, b, c, e⟩ := F.l x hx
    exact lkB_ok a b.1 c.1 e.1
  rw [al]
  show restB ch nr s0 s1 (L.map Lk.d) = true
  unfold restB
  rw [if_neg (by omega), am_map]
  exact decide_eq_true F.sum
theorem fr_int {n : Nat} {i : Int} (h0 : 0 ≤ i) (h1 : i < 64) : Fr n (.int i) := by cases n <;> exact ⟨h0, h1⟩
theorem fr_str {n : Nat} {s : Str} (h : s ∈ fw) : Fr n (.str s) := by cases n <;> exact h
theorem fr_tup {n : Nat} {xs : List D} (hl : xs.length + 1 ≤ β (n + 1)) (h : ∀ x ∈ xs, Fr n x) : Fr (n + 1) (.tup xs) := ⟨hl, h⟩
theorem fr_im {n : Nat} {s : Int} (hb : 3 ≤ β (n + 1)) (h0 : 0 ≤ s) (h1 : s < 64) : Fr (n + 1) (imD s) := fr_tup (by simpa using hb) fun x hx => by
  simp only [List.mem_cons, List.not_mem_nil, or_false] at hx
  rcases hx with rfl | rfl
  · exact fr_str (by simp [fw])
  · exact fr_int h0 h1
theorem fr_sheet {ch nr s0 s1 : Int} {L : List Lk} (F : FairS ch nr s0 s1 L) : Fr 4 (shtD ch nr s0 s1 L) := by
  have h1 := F.hc
  have h2 := F.hn
  have h3 := F.h0
  have h4 := F.h1
  have hl := F.len
  refine fr_tup (by show 4 + 1 ≤ 5; decide) fun x hx => ?_
  simp only [List.mem_cons, List.not_mem_nil, or_false] at hx
  rcases hx with rfl | rfl | rfl | rfl
  · exact fr_int (by omega) (by omega)
  · exact fr_int (by omega) (by omega)
  · refine fr_tup (by show 2 + 1 ≤ 4; decide) fun x hx => ?_
    simp only [List.mem_cons, List.not_mem_nil, or_false] at hx
    rcases hx with rfl | rfl <;> exact fr_int (by omega) (by omega)
  · refine fr_tup (by rw [List.length_map]; show L.length + 1 ≤ 4; omega) fun x hx => ?_
    obtain ⟨y, hy, rfl⟩ := List.mem_map.mp hx
    obtain ⟨a, b, c, e⟩ := F.l y hy
    refine fr_tup (by show 4 + 1 ≤ 5; decide) fun x hx => ?_
    simp only [List.mem_cons, List.not_mem_nil, or_false] at hx
    rcases hx with rfl | rfl | rfl | rfl
    · exact fr_int (by omega) (by omega)
    · exact fr_int (by omega) (by omega)
    · exact fr_im (by decide) c.1 (by omega)
    · exact fr_int (by omega) (by omega)
theorem fair_offer {w : Str} (hw : w = wO ∨ w = wA) {ch nr s0 s1 : Int} {L : List Lk} (F : FairS ch nr s0 s1 L) : FairL (.tup [.str w, shtD ch nr s0 s1 L]) ch := by
  refine ⟨?_, ?_, .inl ⟨w, _, rfl, hw⟩⟩
  · show ((isS wO (.str w) || isS wA (.str w)) && shB (shtD ch nr s0 s1 L)) = true
    rw [shB_fair F]
    rcases hw with rfl | rfl <;> rw [isS_self] <;> simp
  · refine fr_tup (by show 2 + 1 ≤ 6; decide) fun x hx => ?_
    simp only [List.mem_cons, List.not_mem_nil, or_false] at hx
    rcases hx with rfl | rfl
    · exact fr_str (by rcases hw with rfl | rfl <;> simp [fw])
    · exact fr_sheet F
theorem fair_turn {w : Str} (hw : w = wT ∨ w = wS) {c v : Int} (c0 : 0 ≤ c) (c1 : c < 2) (v0 : 0 ≤ v) (v1 : v < 40) : FairL (.tup [.str w, .int c, .int v]) c := by
  refine ⟨?_, ?_, .inr ⟨w, _, rfl, by rcases hw with rfl | rfl; exact .inl rfl; exact .inr (.inl rfl)⟩⟩
  · show ((isS wT (.str w) || isS wS (.str w)) && (belB 2 (.int c) && cntB 0 (.int v))) = true
    rw [belB_ok c0 c1, cntB_ok v0]
    rcases hw with rfl | rfl <;> rw [isS_self] <;> simp
  · refine fr_tup (by show 3 + 1 ≤ 6; decide) fun x hx => ?_
    simp only [List.mem_cons, List.not_mem_nil, or_false] at hx
    rcases hx with rfl | rfl | rfl
    · exact fr_str (by rcases hw with rfl | rfl <;> simp [fw])
    · exact fr_int (by omega) (by omega)
    · exact fr_int (by omega) (by omega)
theorem all_ints {P : D → Bool} {ns : List Int} (h : ∀ i ∈ ns, P (.int i) = true) : (ns.map D.int).all P = true := by
  rw [List.all_eq_true]
  intro d hd
  obtain ⟨i, hi, rfl⟩ := List.mem_map.mp hd
  exact h i hi
theorem fair_pass {c s : Int} {rs es : List Int} (c0 : 0 ≤ c) (c1 : c < 2) (s0 : 0 ≤ s) (s1 : s < 9) (hr : rs.length ≤ 2) (he : es.length = rs.length) (r : ∀ i ∈ rs, 0 ≤ i ∧ i < 2) (e : ∀ i ∈ es, 0 ≤ i ∧ i < 60) : FairL (.tup [.str wP, .int c, imD s, .tup (rs.map D.int), .tup (es.map D.int)]) c := by
  refine ⟨?_, ?_, .inr ⟨wP, _, rfl, .inr (.inr rfl)⟩⟩
  · show (isS wP (.str wP) && (belB 2 (.int c) && (imgB (imD s) && ((rs.map D.int).all (cntB 0) && ((es.map D.int).all (cntB 0) && (decide ((rs.map D.int).length = (es.map D.int).length) && (rs.map D.int).all (belB 2))))))) = true
    rw [isS_self, belB_ok c0 c1, imgB_two, isS_self, cntB_ok s0, all_ints fun i hi => cntB_ok (r i hi).1, all_ints fun i hi => cntB_ok (e i hi).1, all_ints fun i hi => belB_ok (r i hi).1 (r i hi).2, decide_eq_true (by simp [he])]
    rfl
  · refine fr_tup (by show 5 + 1 ≤ 6; decide) fun x hx => ?_
    simp only [List.mem_cons, List.not_mem_nil, or_false] at hx
    rcases hx with rfl | rfl | rfl | rfl | rfl
    · exact fr_str (by simp [fw])
    · exact fr_int (by omega) (by omega)
    · exact fr_im (by decide) s0 (by omega)
    · refine fr_tup (by rw [List.length_map]; show rs.length + 1 ≤ 5; omega) fun x hx => ?_
      obtain ⟨i, hi, rfl⟩ := List.mem_map.mp hx
      have := r i hi
      exact fr_int (by omega) (by omega)
    · refine fr_tup (by rw [List.length_map]; show es.length + 1 ≤ 5; omega) fun x hx => ?_
      obtain ⟨i, hi, rfl⟩ := List.mem_map.mp hx
      have := e i hi
      exact fr_int (by omega) (by omega)
section
variable {h : Sto} {Q : D → Sto → Prop} {Pn : Sl → Sto → Prop} {u k : Nat}
theorem draws_wp {m : Int} {many : Nat} {ρ : Sl} (U : Ur k u h) (hk : k < 300000) (hm : 0 < m) (hm2 : m < 1000) (hn : many ≤ 10) (r0 : ρ[0]? = some (some (.ref u))) (r2 : ρ[2]? = some (some (.int (many : Nat)))) (rl : 5 < ρ.length)
    (q : ∀ (ns : List Int) h', ns.length = many → (∀ i ∈ ns, 0 ≤ i ∧ i < m) → lstAt h' h.length = some (ns.map D.int) → h.length < h'.length → Fu u h h' → Ur (k + many) u h' → Q (.ref h.length) h') :
    wp (mLc (mWk rng1F (mCons (mVar 2) mNil)) (.one 5) mYes (mFn 2 g__law_take (mCons (mVar 0) (mCons (mC (.int m)) mNil))) [5] ρ h) Q := by
  have hu := U.lt
  unfold mLc
  rw [wp_bind]
  simp only [wp_wk, wp_cons, wp_var, wp_nil]
  refine ⟨_, r2, ?_⟩
  rw [wp_rng1]
  refine ⟨by omega, ?_⟩
  rw [wp_bind, Int.toNat_natCast]
  refine wp_loopC_inv (rngL many) (fun i acc g' => ∃ ss : List Int, ss.length = i ∧ acc = ss.map D.int ∧ (∀ i ∈ ss, 0 ≤ i ∧ i < m) ∧ lstAt g' h.length = some acc ∧ Fu u h g' ∧ Ur (k + i) u g' ∧ i ≤ many) (fun i acc g I => rng_item) (fun i acc g I => by obtain ⟨ss, sl, rfl, -, -, -, -, hi⟩ := I; simp; omega) ?_ ?_ _ 0 [] _ (by simp [Wk.len, rngL]) (Nat.zero_le _) ⟨[], rfl, rfl, (fun i hi => nomatch hi), lst_new, Fx.more.fu, U.more, Nat.zero_le _⟩
  · rintro i z acc g2 ed ⟨ss, sl, rfl, so, e2, f2, Ui, hi⟩
    obtain ⟨rfl, hi2⟩ := rng_get ed
    have q0 : ((wipeD ρ [5]).set 5 (some (.int (i : Int))))[0]? = some (some (.ref u)) := by
      show ((ρ.set 5 none).set 5 (some (.int (i : Int))))[0]? = _
      rw [List.getElem?_set_ne (by decide), List.getElem?_set_ne (by decide)]
      exact r0
    refine ⟨_, rfl, wp_yes.2 ⟨fun _ => ?_, (fun z => nomatch z)⟩⟩
    simp only [wp_fn, wp_cons, wp_var, wp_c, wp_nil]
    refine ⟨_, q0, rfl, take_wp Ui (by omega) hm (by omega) fun t g3 t0 t1 f3 U3 _ => ?_⟩
    have e3 := f3.lst (by omega) e2
    refine ⟨e3, ss ++ [t], by simp [sl], by simp, fun j hj => ?_, lst_put e3, Fu.putN (f2.trans f3) (Nat.le_refl _), Ur.putN U3 (by omega), by omega⟩
    rcases List.mem_append.mp hj with hj | hj
    · exact so j hj
    · rw [List.mem_singleton.mp hj]; exact ⟨t0, t1⟩
  · rintro acc g2 ⟨ss, sl, rfl, so, e2, f2, Ui, hi⟩
    rw [rngL_len] at sl Ui
    rw [wp_ok]
    exact q ss g2 sl so e2 (lst_lt e2) f2 Ui
theorem fair_wp (U : Ur k u h) (hk : k < 70000) (q : ∀ (d : D) (ch : Int) h', FairL d ch → Fu u h h' → Ur (k + 60) u h' → Q d h') : wp (g__law_fair [.ref u] h) Q := by
  have hu := U.lt
  unfold g__law_fair
  refine wp_run ?_
  unfold b__law_fair
  rw [wo_seqS, wo_set]
  simp only [wp_fn, wp_cons, wp_var, wp_c, wp_nil]
  refine ⟨_, rfl, rfl, take_wp U (by omega) (by decide) (by decide) fun way h1 w0 w1 f1 U1 _ => ?_⟩
  have hu1 := U1.lt
  rw [wo_seqS, wo_ifS]
  simp only [wp_tb, wp_bin, wp_var, wp_c]
  refine ⟨_, rfl, ?_⟩
  rw [wp_lt]
  refine ⟨_, rfl, ?_⟩
  by_cases c2 : way < 2
  · rw [decide_eq_true c2, if_pos rfl, wo_ret]
    simp only [wp_tup, wp_bin, wp_lst, wp_fn, wp_cons, wp_var, wp_c, wp_nil]
    refine ⟨by show 2 ≤ 16777216; decide, _, rfl, ?_⟩
    obtain ⟨w, ew, hw⟩ : ∃ w, atI [D.str (PySem.Str.ofString "offer"), D.str (PySem.Str.ofString "agree")] way = some (.str w) ∧ (w = wO ∨ w = wA) := by
      rcases (show way = 0 ∨ way = 1 by omega) with rfl | rfl
      · exact ⟨_, at0, .inl rfl⟩
      · exact ⟨_, at1, .inr rfl⟩
    rw [wp_ixL]
    refine ⟨_, _, any_new, ew, ?_⟩
    refine ⟨_, rfl, rfl, fair_sheet_wp U1.more (by omega) fun ch nr s0 s1 L g F f2 U2 => ?_⟩
    exact ⟨by show 2 ≤ 16777216; decide, q _ ch g (fair_offer hw F) (f1.trans (Fx.more.fu.trans f2)) (Ur.le U2 (by omega))⟩
  rw [decide_eq_false c2, if_neg (by decide), wo_nxS, wo_seqS, wo_ifS]
  simp only [wp_tb, wp_bin, wp_var, wp_c]
  refine ⟨_, rfl, ?_⟩
  rw [wp_lt]
  refine ⟨_, rfl, ?_⟩
  by_cases c4 : way < 4
  · rw [decide_eq_true c4, if_pos rfl, wo_ret]
    simp only [wp_tup, wp_bin, wp_lst, wp_fn, wp_cons, wp_var, wp_c, wp_nil]
    refine ⟨by show 2 ≤ 16777216; decide, _, rfl, ?_⟩
    rw [wp_sub]
    obtain ⟨w, ew, hw⟩ : ∃ w, atI [D.str (PySem.Str.ofString "turn"), D.str (PySem.Str.ofString "secret")] (way - 2) = some (.str w) ∧ (w = wT ∨ w = wS) := by
      rcases (show way = 2 ∨ way = 3 by omega) with rfl | rfl
      · exact ⟨_, at0, .inl rfl⟩
      · exact ⟨_, at1, .inr rfl⟩
    rw [wp_ixL]
    refine ⟨_, _, any_new, ew, ?_⟩
    refine ⟨_, rfl, rfl, take_wp U1.more (by omega) (by decide) (by decide) fun c g2 c0 c1 f2 U2 _ => ?_⟩
    refine ⟨_, rfl, rfl, take_wp U2 (by omega) (by decide) (by decide) fun v g3 v0 v1 f3 U3 _ => ?_⟩
    exact ⟨by show 3 ≤ 16777216; decide, q _ c g3 (fair_turn hw c0 c1 v0 v1) (f1.trans (Fx.more.fu.trans (f2.trans f3))) (Ur.le U3 (by omega))⟩
  rw [decide_eq_false c4, if_neg (by decide), wo_nxS, wo_seqS, wo_set]
  simp only [wp_fn, wp_cons, wp_var, wp_c, wp_nil]
  refine ⟨_, rfl, rfl, take_wp U1 (by omega) (by decide) (by decide) fun many g2 m0 m1 f2 U2 _ => ?_⟩
  obtain ⟨many, rfl⟩ := Int.eq_ofNat_of_zero_le m0
  rw [wo_seqS, wo_par]
  have hu2 := U2.lt
  refine draws_wp U2 (by omega) (by decide) (by decide) (by omega) rfl rfl (by show 5 < 6; decide) fun rs g3 rl ro e3 l3 f3 U3 => ?_
  refine draws_wp U3 (by omega) (by decide) (by decide) (by omega) rfl rfl (by show 5 < 6; decide) fun es g4 el eo e4 l4 f4 U4 => ?_
  have e3 := f4.lst (by omega) e3
  rw [wo_ret]
  simp only [wp_tup, wp_call, wp_fn, wp_cons, wp_var, wp_c, wp_nil]
  refine ⟨_, rfl, rfl, take_wp U4 (by omega) (by decide) (by decide) fun c g5 c0 c1 f5 U5 _ => ?_⟩
  refine ⟨_, rfl, rfl, take_wp U5 (by omega) (by decide) (by decide) fun s g6 s0 s1 f6 U6 _ => ?_⟩
  have f56 := f5.trans f6
  refine ⟨by show 2 ≤ 16777216; decide, _, rfl, wp_tupL (lst_any (f56.lst (by omega) e3)) ⟨_, rfl, wp_tupL (lst_any (f56.lst (by omega) e4)) ?_⟩⟩
  exact ⟨by show 5 ≤ 16777216; decide, q _ c g6 (fair_pass c0 c1 s0 s1 (by omega) (by omega) ro eo) (f1.trans (f2.trans (f3.trans (f4.trans f56)))) (Ur.le U6 (by omega))⟩
end
end K11
namespace K11
open PySem PySem.Spec L2 Ml
abbrev lapB : MS := (mSeqS (mSet 3 (mFn 1 g__law_fair (mCons (mVar 1) mNil))) (mSeqS (mSet 4 (mFn 2 g__law_bent (mCons (mVar 1) (mCons (mVar 3) mNil)))) (mSeqS (mSet 5 (mLst (mCons (mC (.bl true)) (mCons (mIf (mTB (mBin inD (mBin ixD (mVar 3) (mC (.int 0))) (mTup (mCons (mC (.str (PySem.Str.ofString "offer"))) (mCons (mC (.str (PySem.Str.ofString "agree"))) mNil))))) (mBin ixD (mBin ixD (mVar 3) (mC (.int 1))) (mC (.int 0))) (mBin ixD (mVar 3) (mC (.int 1)))) (mCons (mFn 2 g__law_is_letter (mCons (mFn0 g__law_net) (mCons (mVar 4) mNil))) mNil))))) (mIfS (mNotT (mTru (mFn 2 g__law_same (mCons (mLst (mCons (mFn 2 g_is_letter (mCons (mFn0 g__law_net) (mCons (mVar 3) mNil))) (mCons (mFn 1 g_channel_of (mCons (mVar 3) mNil)) (mCons (mFn 2 g_is_letter (mCons (mFn 1 g__law_lists (mCons (mFn0 g__law_net) mNil)) (mCons (mVar 4) mNil))) mNil)))) (mCons (mVar 5) mNil))))) (mRet (mC (.bl false))) mNx))))
abbrev lapsM : MS := (mSeqS (mFor (mWk rng1F (mCons (mC (.int 12)) mNil)) (.one 2) lapB) (mRet (mC (.bl true))))
section
variable {h : Sto} {Q : D → Sto → Prop} {Pn : Sl → Sto → Prop} {u k : Nat}
theorem in_OAw {w : Str} (hw : w ∈ fw) : inD (.str w) (.tup [.str wO, .str wA]) h = .ok (.bl (isS wO (.str w) || isS wA (.str w))) h :=
  in_OA (u := 0) (b := 0) (n := 0) (by omega) (show Tm 0 0 h 0 (.str w) from fw_lay w hw)
/-- own[0] in (offer, agree): the channel told -/
theorem chan_of {d : D} {ch : Int} (F : FairL d ch) : ∃ w x rest, d = .tup (.str w :: x :: rest) ∧ w ∈ fw ∧ (((isS wO (.str w) || isS wA (.str w)) = true ∧ ∃ r, x = .tup (.int ch :: r)) ∨ ((isS wO (.str w) || isS wA (.str w)) = false ∧ x = .int ch)) := by
  rcases F.c with ⟨w, rest, rfl, hw⟩ | ⟨w, rest, rfl, hw⟩
  · refine ⟨w, _, _, rfl, by rcases hw with rfl | rfl <;> simp [fw], .inl ⟨?_, _, rfl⟩⟩
    rcases hw with rfl | rfl <;> rw [isS_self] <;> simp
  · refine ⟨w, _, _, rfl, by rcases hw with rfl | rfl | rfl <;> simp [fw], .inr ⟨?_, rfl⟩⟩
    have a1 : isS wO (.str w) = false := by
      rcases hw with rfl | rfl | rfl
      · exact decide_eq_false (Ne.symm nOT)
      · exact decide_eq_false (Ne.symm nOS)
      · exact decide_eq_false (Ne.symm nOP)
    have a2 : isS wA (.str w) = false := by
      rcases hw with rfl | rfl | rfl
      · exact decide_eq_false (Ne.symm nAT)
      · exact decide_eq_false (Ne.symm nAS)
      · exact decide_eq_false (Ne.symm nAP)
    rw [a1, a2]; rfl
theorem channel_wp {d : D} {ch : Int} (F : FairL d ch) (q : Q (.int ch) h) : wp (g_channel_of [d] h) Q := by
  obtain ⟨w, x, rest, rfl, hw, c⟩ := chan_of F
  unfold g_channel_of
  refine wp_run ?_
  unfold b_channel_of
  rw [wo_ret]
  simp only [wp_if, wp_tb, wp_bin, wp_var, wp_c]
  refine ⟨_, rfl, ?_⟩
  rw [ix_0, wp_ok, in_OAw hw, wp_ok]
  refine ⟨_, rfl, ?_⟩
  rcases c with ⟨e, r, rfl⟩ | ⟨e, rfl⟩
  · rw [e, if_pos rfl]
    refine ⟨_, rfl, ?_⟩
    rw [ix_1, wp_ok, ix_0, wp_ok]
    exact q
  · rw [e, if_neg (by decide)]
    refine ⟨_, rfl, ?_⟩
    rw [ix_1, wp_ok]
    exact q
theorem lap_wp {v0 v2 v3 v4 v5 : Option D} (U : Ur k u h) (hk : k < 60000) (q : ∀ v3 v4 v5 g, Ur (k + 100) u g → Pn [v0, some (.ref u), v2, v3, v4, v5] g) : wo (lapB [v0, some (.ref u), v2, v3, v4, v5] h) Pn Q := by
  have hu := U.lt
  rw [wo_seqS, wo_set]
  simp only [wp_fn, wp_cons, wp_var, wp_nil]
  refine ⟨_, rfl, rfl, fair_wp U (by omega) fun d ch g1 F f1 U1 => ?_⟩
  rw [wo_seqS, wo_set]
  simp only [wp_fn, wp_cons, wp_var, wp_nil]
  refine ⟨_, rfl, _, rfl, rfl, bent_wp 5 d 20 (k + 60) g1 _ F.f (by decide) (by decide) U1 (by omega) fun d' g2 t f2 U2 => ?_⟩
  have hu2 := U2.lt
  have few := tv_few t
  have tm := tv_tm t
  have tF : ∀ g, Tm u 6 g 5 d := fun g => tv_tm (fr_tv F.f)
  obtain ⟨w, x, rest, ed, hw, c⟩ := chan_of F
  rw [wo_seqS, wo_set]
  simp only [wp_lst, wp_cons, wp_if, wp_tb, wp_bin, wp_tup, wp_fn, wp_fn0, wp_var, wp_c, wp_nil]
  refine ⟨_, rfl, ?_⟩
  have fin : ∀ (y : D), y = .int ch → ∀ (g : Sto), Fx g2 g → wp (mFn 2 g__law_is_letter (mCons (mFn0 g__law_net) (mCons (mVar 4) mNil)) [v0, some (.ref u), v2, some d, some d', v5] g) fun z h1 => [D.bl true, y, z].length ≤ 16777216 ∧ wo (mIfS (mNotT (mTru (mFn 2 g__law_same (mCons (mLst (mCons (mFn 2 g_is_letter (mCons (mFn0 g__law_net) (mCons (mVar 3) mNil))) (mCons (mFn 1 g_channel_of (mCons (mVar 3) mNil)) (mCons (mFn 2 g_is_letter (mCons (mFn 1 g__law_lists (mCons (mFn0 g__law_net) mNil)) (mCons (mVar 4) mNil))) mNil)))) (mCons (mVar 5) mNil))))) (mRet (mC (.bl false))) mNx [v0, some (.ref u), v2, some d, some d', some (.ref h1.length)] (h1 ++ [.lst [.bl true, y, z]])) Pn Q := fun y ey g fg => by
    subst ey
    simp only [wp_fn, wp_fn0, wp_cons, wp_var, wp_nil]
    rw [net_eq, wp_ok]
    refine ⟨_, rfl, rfl, lletter_any (by decide) (by decide) (tm_fx fg tm) few fun g3 f3 => ?_⟩
    refine ⟨by show 3 ≤ 16777216; decide, ?_⟩
    rw [wo_ifS]
    simp only [wp_notT, wp_tru, wp_fn, wp_fn0, wp_lst, wp_cons, wp_var, wp_nil]
    have e5 : lstAt (g3 ++ [.lst [.bl true, .int ch, .bl (letB d')]]) g3.length = some [.bl true, .int ch, .bl (letB d')] := lst_new
    have f4 : Fx g2 (g3 ++ [.lst [.bl true, .int ch, .bl (letB d')]]) := fg.trans (f3.trans .more)
    generalize g3 ++ [.lst [.bl true, .int ch, .bl (letB d')]] = g4 at e5 f4 ⊢
    rw [net_eq, wp_ok]
    have pn : plain 3 (netD net2) = true := by rfl
    refine ⟨_, rfl, rfl, letter_any (u := u) (si_plain pn) (by decide) (by decide) (tF g4) fun g5 f5 => ?_⟩
    refine ⟨_, rfl, rfl, channel_wp F ?_⟩
    rw [net_eq, wp_ok]
    refine ⟨rfl, li_wp 3 (netD net2) _ g5 _ pn (by decide) fun y l lo => ?_⟩
    have f6 : Fx g5 (g5 ++ l) := ⟨l, rfl⟩
    have F6 := f4.trans (f5.trans f6)
    have hu5 := (f4.trans f5).fu (u := u) |>.len
    refine ⟨_, rfl, rfl, letter_any (u := u) (si_lo (by omega) lo) (by decide) (by decide) (tm_fx F6 tm) fun g7 f7 => ?_⟩
    refine ⟨by show 3 ≤ 16777216; decide, _, rfl, rfl, ?_⟩
    rw [F.b]
    have F7 := F6.trans f7
    refine same_lists (k := 19) (A := [.bl true, .int ch, .bl (letB d')]) any_new (Fx.any .more ((f5.trans (f6.trans f7)).any (lst_any e5))) (by show 3 ≤ 1000; decide) (fun d hd => ?_) (by decide) fun l2 => ⟨true, rfl, ?_⟩
    · simp only [List.mem_cons, List.not_mem_nil, or_false] at hd
      rcases hd with rfl | rfl | rfl <;> rfl
    · rw [if_neg (by decide), wo_nxS]
      exact q _ _ _ _ (Ur.le (Fx.ur ((F7.trans .more).trans ⟨l2, rfl⟩) U2) (by omega))
  subst ed
  rw [ix_0, wp_ok]
  refine ⟨by show 2 ≤ 16777216; decide, ?_⟩
  rw [in_OAw hw, wp_ok]
  refine ⟨_, rfl, ?_⟩
  rcases c with ⟨e, r, rfl⟩ | ⟨e, rfl⟩
  · rw [e, if_pos rfl]
    refine ⟨_, rfl, ?_⟩
    rw [ix_1, wp_ok, ix_0, wp_ok]
    have := fin _ rfl g2 .refl
    simp only [wp_fn, wp_fn0, wp_cons, wp_var, wp_nil] at this
    exact this
  · rw [e, if_neg (by decide)]
    refine ⟨_, rfl, ?_⟩
    rw [ix_1, wp_ok]
    have := fin _ rfl g2 .refl
    simp only [wp_fn, wp_fn0, wp_cons, wp_var, wp_nil] at this
    exact this
theorem laps_wp {v0 v2 v3 v4 v5 : Option D} (U : Ur 0 u h) (q0 : ∀ g, Q (.bl true) g) : wo (lapsM [v0, some (.ref u), v2, v3, v4, v5] h) Pn Q := by
  rw [wo_seqS]
  refine wo_for ?_
  simp only [wp_wk, wp_cons, wp_c, wp_nil]
  rw [wp_rng1]
  refine ⟨by decide, ?_⟩
  refine wo_loop (rngL 12) (fun i ρ g => ∃ v2 v3 v4 v5, ρ = [v0, some (.ref u), v2, v3, v4, v5] ∧ Ur (100 * i) u g ∧ i ≤ 12) (fun _ _ _ _ => rng_item) ?_ ?_ _ 0 _ _ (by simp [Wk.len, rngL]) (Nat.zero_le _) ⟨v2, v3, v4, v5, rfl, U, Nat.zero_le _⟩
  · rintro i z ρ g ez ⟨v2, v3, v4, v5, rfl, U1, hi⟩
    obtain ⟨rfl, hi2⟩ := rng_get ez
    refine ⟨_, rfl, ?_⟩
    exact lap_wp U1 (by omega) fun v3 v4 v5 g' U2 => ⟨_, _, _, _, rfl, Ur.le U2 (by omega), by omega⟩
  · rintro ρ g ⟨v2, v3, v4, v5, rfl, U1, hi⟩
    rw [wo_ret, wp_c]
    exact q0 _
end
end K11
namespace K11
open PySem PySem.Spec L2 Ml
def stOf : R D → Sto
  | .ok _ h => h
  | _ => []
def hS (xs : List D) : Sto := stOf (g__law_by_hand_right [] [.ro xs])
theorem by_hand (xs : List D) : g__law_by_hand_right [] [.ro xs] = .ok (.bl true) (hS xs) := by kernel_rfl
theorem hS0 (xs : List D) : anyAt (hS xs) 0 = some xs := by kernel_rfl
end K11
namespace K11
open PySem PySem.Spec L2 Ml
section
variable {Q : D → Sto → Prop}
theorem wp_listL {h : Sto} {P : D → Sto → Prop} {n : Nat} {xs : List D} (e : anyAt h n = some xs) (q : P (.ref h.length) (h ++ [.lst xs])) : wp (listF [.ref n] h) P := by
  simp [listF, e]; exact q
theorem wo_last {m : MS} {ρ : Sl} {h : Sto} {T : Sl → Sto → Prop} (x : ∀ R : Sl → Sto → Prop, (∀ ρ1 h1, T ρ1 h1 → R ρ1 h1) → wo (m ρ h) R Q) : wo (m ρ h) T Q := x _ fun _ _ z => z
theorem box_wp {h : Sto} {r : Nat} {cs : List Int} {k : Nat} (e : anyAt h r = some (cs.map D.int)) (hk : k < cs.length) (hc : cs.length ≤ 1000) (q : ∀ a b : Int, 0 ≤ a → Q (.ref h.length) (h ++ [.lst [.int a, .int b, .int 0]])) : wp (g__law_box [.ref r, .int k] h) Q := by
  have e2 : atI (cs.map D.int) (k : Int) = some (.int cs[k]) := atI_nat (by rw [List.getElem?_map, List.getElem?_eq_getElem hk]; rfl)
  have hk2 : (k : Int) < (cs.length : Int) := by omega
  unfold g__law_box
  refine wp_run ?_
  unfold b__law_box
  simp [e, e2, hk2, hk]
  refine ⟨?_, q _ _ ?_⟩
  · right
    constructor <;> split <;> omega
  · split <;> split <;> simp <;> omega
theorem wp_slL {h : Sto} {n : Nat} {lo hi : Option Int} {xs : List D} (e : anyAt h n = some xs) (q : Q (.ref h.length) (h ++ [.lst (cutD xs lo hi)])) : wp (slD (.ref n) lo hi h) Q := by
  simp [slD, e]; exact q
theorem wp_enL {h : Sto} {n : Nat} {xs : List D} {P : Wk → Sto → Prop} (e : anyAt h n = some xs) (q : P (.enS n) h) : wp (enF [.ref n] h) P := by
  simp [enF, e]; exact q
def enI (xs : List D) : List D := xs.mapIdx fun i x => .tup [.int i, x]
theorem enS_item {h : Sto} {n i : Nat} {xs : List D} (e : anyAt h n = some xs) : (Wk.enS n).item h i = some (enI xs)[i]? := by
  show (match anyAt h n with | some xs => (match xs[i]? with | some x => some (some (D.tup [.int i, x])) | none => some none) | none => none) = _
  rw [e]
  unfold enI
  rw [List.getElem?_mapIdx]
  dsimp only
  cases xs[i]? <;> rfl
theorem cells_loop {h : Sto} {r r2 : Nat} {X : List Int} {cs : List Int} {v3 v4 v5 : Option D} {Pn : Sl → Sto → Prop} (e1 : lstAt h r = some (cs.map D.int)) (e2 : anyAt h r2 = some (X.map D.int)) (hne : r ≠ r2) (hX : X.length ≤ 62) (hcs : X = [] ∨ cs.length = 1) (hle : cs.length = 1)
    (q : ∀ (cs : List Int) v3 v4 v5 h', lstAt h' r = some (cs.map D.int) → cs.length = 1 → Pn [some (.ref 0), some (.int 1), some (.ref r), v3, v4, v5] h') :
    wo (loopS (.enS r2) (.many [3, 4]) (mSeqS (mSet 5 (mBin (int2 modF) (mCall intF (mCons (mVar 3) mNil)) (mVar 1))) (mSub (mVar 2) (mVar 5) (mBin addD (mBin ixD (mVar 2) (mVar 5)) (mBin mulD (mVar 4) (mBin addD (mVar 3) (mC (.int 2))))))) ((Wk.enS r2).len h) 0 [some (.ref 0), some (.int 1), some (.ref r), v3, v4, v5] h) Pn Q := by
  refine wo_loop (enI (X.map D.int)) (fun i ρ h' => ∃ (cs : List Int) (v3 v4 v5 : Option D), ρ = [some (.ref 0), some (.int 1), some (.ref r), v3, v4, v5] ∧ lstAt h' r = some (cs.map D.int) ∧ anyAt h' r2 = some (X.map D.int) ∧ (X = [] ∨ cs.length = 1) ∧ cs.length = 1) ?_ ?_ ?_ _ 0 _ _ ?_ ?_ ?_
  · rintro i ρ h' ⟨cs, v3, v4, v5, rfl, _, e2, _⟩
    exact enS_item e2
  · rintro i d ρ h' ed ⟨cs, v3, v4, v5, rfl, e1, e2, hcs, hle⟩
    unfold enI at ed
    rw [List.getElem?_mapIdx, List.getElem?_map] at ed
    cases ex : X[i]? with
    | none => rw [ex] at ed; cases ed
    | some x =>
      rw [ex] at ed
      cases ed
      have hi := (List.getElem?_eq_some_iff.mp ex).1
      have hl : cs.length = 1 := by
        rcases hcs with rfl | hl
        · simp at hi
        · exact hl
      obtain ⟨c1, rfl⟩ : ∃ c1, cs = [c1] := by
        match cs, hl with
        | [c1], _ => exact ⟨c1, rfl⟩
      refine ⟨_, rfl, ?_⟩
      have ea := lst_any e1
      simp at e1 ea
      have nx : r ≠ r2 := hne
      have new : ∀ ys : List D, lstAt (h'.set r (.lst ys)) r = some ys := fun ys => by
        unfold lstAt
        rw [List.getElem?_set_self (lst_lt e1)]
      have old : ∀ ys : List D, anyAt (h'.set r (.lst ys)) r2 = some (X.map D.int) := fun ys => by
        have := e2
        unfold anyAt at this ⊢
        rw [List.getElem?_set_ne nx]
        exact this
      refine wo_last fun R hR => ?_
      simp [ea, e1, at0, setF, ixN]
      refine ⟨by omega, hR _ _ ⟨[_], _, _, _, rfl, new _, old _, .inr rfl, rfl⟩⟩
  · rintro ρ h' ⟨cs, v3, v4, v5, rfl, e1, e2, hcs, hle⟩
    exact q cs v3 v4 v5 h' e1 hle
  · simp [enI, Wk.len, e2]
  · omega
  · exact ⟨cs, v3, v4, v5, rfl, e1, e2, hcs, hle⟩
theorem cells_wp {h : Sto} {ns : List Int} (e : anyAt h 0 = some (ns.map D.int)) (hn : ns.length ≤ 63) (q : ∀ (r : Nat) (cs : List Int) h', lstAt h' r = some (cs.map D.int) → cs.length = 1 → Q (.ref r) h') : wp (g__law_cells [.ref 0, .int 1] h) Q := by
  have cut1 : cutD (ns.map D.int) none (some 1) = (ns.take 1).map D.int := by
    have e1 : HT.sIx (ns.map D.int).length 0 none = 0 := rfl
    have e2 : HT.sIx (ns.map D.int).length (ns.map D.int).length (some 1) = min 1 (ns.map D.int).length := rfl
    unfold cutD
    rw [e1, e2]
    simp [List.map_take]
  have cut2 : ∃ X : List Int, cutD (ns.map D.int) (some 1) (some 63) = X.map D.int ∧ X.length ≤ 62 ∧ (X = [] ∨ 2 ≤ ns.length) := by
    have e1 : HT.sIx (ns.map D.int).length 0 (some 1) = min 1 (ns.map D.int).length := rfl
    have e2 : HT.sIx (ns.map D.int).length (ns.map D.int).length (some 63) = min 63 (ns.map D.int).length := rfl
    refine ⟨(ns.drop (min 1 ns.length)).take (min 63 ns.length - min 1 ns.length), ?_, by simp; omega, ?_⟩
    · unfold cutD
      rw [e1, e2]
      simp
    · by_cases c : 2 ≤ ns.length
      · exact .inr c
      · left
        apply List.eq_nil_of_length_eq_zero
        simp; omega
  obtain ⟨X, ecut2, hX, hX2⟩ := cut2
  unfold g__law_cells
  refine wp_run ?_
  unfold b__law_cells
  refine wo_step (T := fun ρ g => ∃ (r : Nat) (cs : List Int), ρ = [some (.ref 0), some (.int 1), some (.ref r), none, none, none] ∧ lstAt g r = some (cs.map D.int) ∧ anyAt g 0 = some (ns.map D.int) ∧ cs.length = 1 ∧ (X = [] ∨ cs.length = 1)) (fun R hR => ?_) ?_
  · rw [wo_set, wp_or]
    simp only [wp_call, wp_cons, wp_nil, wp_sl, wp_var, wp_noP, wp_part]
    simp
    refine wp_slL e ?_
    rw [cut1]
    have f : Fx h (h ++ [.lst ((ns.take 1).map D.int)]) := Fx.more
    have n1 : anyAt (h ++ [.lst ((ns.take 1).map D.int)]) h.length = some ((ns.take 1).map D.int) := any_new
    generalize h ++ [.lst ((ns.take 1).map D.int)] = g at f n1 ⊢
    refine wp_listL n1 ?_
    have f2 : Fx g (g ++ [.lst ((ns.take 1).map D.int)]) := Fx.more
    have n2 : lstAt (g ++ [.lst ((ns.take 1).map D.int)]) g.length = some ((ns.take 1).map D.int) := lst_new
    generalize g ++ [.lst ((ns.take 1).map D.int)] = g2 at f2 n2 ⊢
    have f3 := f.trans f2
    have tr : truO g2 (.ref g.length) = some (!((ns.take 1).map D.int).isEmpty) := by
      show (match anyAt g2 g.length with | some xs => some (!xs.isEmpty) | none => none) = _
      rw [lst_any n2]
    by_cases c : ns = []
    · subst c
      refine .inl ⟨by rw [tr]; rfl, ?_⟩
      exact hR _ _ ⟨_, [0], rfl, lst_new, Fx.more.any (f3.any e), by decide, .inl (by rcases hX2 with z | z; exact z; simp at z)⟩
    · refine .inr ⟨by rw [tr]; cases ns <;> simp at c ⊢, ?_⟩
      exact hR _ _ ⟨_, ns.take 1, rfl, n2, f3.any e, by have := List.length_pos_iff.mpr c; simp; omega, by rcases hX2 with z | z; exact .inl z; exact .inr (by simp; omega)⟩
  rintro ρ g ⟨r, cs, rfl, e1, e2, hl, hX3⟩
  rw [wo_seqS]
  refine wo_for ?_
  simp only [wp_wk, wp_cons, wp_nil, wp_sl, wp_var, wp_part, wp_c]
  simp
  refine wp_slL e2 ?_
  rw [ecut2]
  have f : Fx g (g ++ [.lst (X.map D.int)]) := Fx.more
  refine wp_enL any_new ?_
  refine cells_loop (f.lst e1) any_new (Nat.ne_of_lt (lst_lt e1)) hX hX3 hl fun cs' v3 v4 v5 h' e' hl' => ?_
  simp
  exact q r cs' h' e' hl'
end
section
variable {Q : D → Sto → Prop}
abbrev lawM (gb : List D → Sto → R D) : MS := (mSeqS (mIfS (mNotT (mTru (mFn0 gb))) (mRet (mC (.bl false))) mNx) (mSeqS (mSet 1 (mFn 2 g__law_box (mCons (mFn 2 g__law_cells (mCons (mVar 0) (mCons (mC (.int 1)) mNil))) (mCons (mC (.int 0)) mNil)))) lapsM))
theorem law_wp (gb : List D → Sto → R D) {h0 h1 : Sto} {ns : List Int} (e0 : gb [] h0 = .ok (.bl true) h1) (e : anyAt h1 0 = some (ns.map D.int)) (hn : ns.length ≤ 63) : wp (runM 6 (lawM gb) [.ref 0] h0) (fun d _ => d = .bl true) := by
  refine wp_run ?_
  rw [wo_seqS, wo_ifS]
  simp only [wp_notT, wp_tru, wp_fn0]
  rw [e0, wp_ok]
  refine ⟨true, rfl, ?_⟩
  rw [if_neg (by decide), wo_nxS, wo_seqS, wo_set]
  simp only [wp_fn, wp_cons, wp_var, wp_c, wp_nil]
  refine ⟨_, rfl, rfl, cells_wp e hn fun r cs h2 e1 hc => ?_⟩
  refine ⟨rfl, box_wp (k := 0) (lst_any e1) (by rw [hc]; decide) (by rw [hc]; decide) fun a b ha => ?_⟩
  have U : Ur 0 h2.length (h2 ++ [.lst [.int a, .int b, .int 0]]) := ⟨a, b, 0, by rw [List.getElem?_append_right (Nat.le_refl _)]; simp, ha, Int.le_refl _, by simp⟩
  exact laps_wp U fun h' => rfl
end
theorem good_of (gb : List D → Sto → R D) (f : List D → Sto) (h1 : ∀ xs : List D, gb [] [.ro xs] = .ok (.bl true) (f xs)) (h2 : ∀ xs : List D, anyAt (f xs) 0 = some xs) : Good (runM 6 (lawM gb)) := by
  intro ns hn
  obtain ⟨d, h', e, ed⟩ := wp_of (law_wp gb (h1 (ns.map D.int)) (h2 _) hn)
  subst ed
  exact ⟨h', e⟩
theorem law_good : Good g_law := by
  unfold g_law b_law
  exact good_of _ hS by_hand hS0
end K11
namespace K11
open PySem PySem.Spec L2 Ml
section
variable {P : Program} {w : World} {K : PySem.W.Frag} {mg : Str → Option Value} {base : Heap}
theorem all_is_number (T : Txt K mg) : FnOk P w K mg base (L2.CX P w) 1 T.a_is_number T.fd_is_number ["thing"] (spD K mg 1 g_is_number) := ok_is_number T (k := 0) 
theorem all_is_from (T : Txt K mg) : FnOk P w K mg base (L2.CX P w) 2 T.a_is_from T.fd_is_from ["thing", "least"] (spD K mg 2 g_is_from) := ok_is_from T (k := 1) (all_is_number (P := P) (w := w) (base := base) T |>.mono (by decide))
theorem all_is_below (T : Txt K mg) : FnOk P w K mg base (L2.CX P w) 3 T.a_is_below T.fd_is_below ["thing", "many"] (spD K mg 2 g_is_below) := ok_is_below T (k := 2) (all_is_from (P := P) (w := w) (base := base) T |>.mono (by decide))
theorem all_is_tuple_of (T : Txt K mg) : FnOk P w K mg base (L2.CX P w) 1 T.a_is_tuple_of T.fd_is_tuple_of ["thing", "many"] (spD K mg 2 g_is_tuple_of) := ok_is_tuple_of T (k := 0) 
theorem all_are_from (T : Txt K mg) : FnOk P w K mg base (L2.CX P w) 3 T.a_are_from T.fd_are_from ["thing", "least"] (spD K mg 2 g_are_from) := ok_are_from T (k := 2) (all_is_from (P := P) (w := w) (base := base) T |>.mono (by decide))
theorem all_are_unlike (T : Txt K mg) : FnOk P w K mg base (L2.CX P w) 1 T.a_are_unlike T.fd_are_unlike ["values"] (spD K mg 1 g_are_unlike) := ok_are_unlike T (k := 0) 
theorem all_at_place (T : Txt K mg) : FnOk P w K mg base (L2.CX P w) 3 T.a_at_place T.fd_at_place ["row", "place"] (spD K mg 2 g_at_place) := ok_at_place T (k := 1)  (ok_ini_NoPlace (P := P) (w := w) (base := base) T |>.mono (by decide))
theorem all_is_image (T : Txt K mg) : FnOk P w K mg base (L2.CX P w) 3 T.a_is_image T.fd_is_image ["thing"] (spD K mg 1 g_is_image) := ok_is_image T (k := 2) (all_is_from (P := P) (w := w) (base := base) T |>.mono (by decide)) (all_is_tuple_of (P := P) (w := w) (base := base) T |>.mono (by decide))
theorem all_is_lock (T : Txt K mg) : FnOk P w K mg base (L2.CX P w) 4 T.a_is_lock T.fd_is_lock ["thing"] (spD K mg 1 g_is_lock) := ok_is_lock T (k := 3) (all_is_below (P := P) (w := w) (base := base) T |>.mono (by decide)) (all_is_from (P := P) (w := w) (base := base) T |>.mono (by decide)) (all_is_image (P := P) (w := w) (base := base) T |>.mono (by decide)) (all_is_tuple_of (P := P) (w := w) (base := base) T |>.mono (by decide))
theorem all__are_locks (T : Txt K mg) : FnOk P w K mg base (L2.CX P w) 5 T.a__are_locks T.fd__are_locks ["thing"] (spD K mg 1 g__are_locks) := ok__are_locks T (k := 4) (all_are_unlike (P := P) (w := w) (base := base) T |>.mono (by decide)) (all_is_lock (P := P) (w := w) (base := base) T |>.mono (by decide))
theorem all_first_sheet (T : Txt K mg) : FnOk P w K mg base (L2.CX P w) 4 T.a_first_sheet T.fd_first_sheet ["net", "channel"] (spD K mg 2 g_first_sheet) := ok_first_sheet T (k := 3) (all_at_place (P := P) (w := w) (base := base) T |>.mono (by decide))
theorem all_total (T : Txt K mg) : FnOk P w K mg base (L2.CX P w) 1 T.a_total T.fd_total ["sheet"] (spD K mg 1 g_total) := ok_total T (k := 0) 
theorem all_channel_of (T : Txt K mg) : FnOk P w K mg base (L2.CX P w) 1 T.a_channel_of T.fd_channel_of ["letter"] (spD K mg 1 g_channel_of) := ok_channel_of T (k := 0) 
theorem all__law_box (T : Txt K mg) : FnOk P w K mg base (L2.CX P w) 1 T.a__law_box T.fd__law_box ["script", "k"] (spD K mg 2 g__law_box) := ok__law_box T (k := 0) 
theorem all__law_take (T : Txt K mg) : FnOk P w K mg base (L2.CX P w) 1 T.a__law_take T.fd__law_take ["urn", "low_so"] (spD K mg 2 g__law_take) := ok__law_take T (k := 0) 
theorem all__law_cells (T : Txt K mg) : FnOk P w K mg base (L2.CX P w) 1 T.a__law_cells T.fd__law_cells ["script", "top"] (spD K mg 2 g__law_cells) := ok__law_cells T (k := 0) 
theorem all__law_of (T : Txt K mg) : FnOk P w K mg base (L2.CX P w) 2 T.a__law_of T.fd__law_of ["urn", "some_so"] (spD K mg 2 g__law_of) := ok__law_of T (k := 1) (all__law_take (P := P) (w := w) (base := base) T |>.mono (by decide))
theorem rec__law_lists (T : Txt K mg) : ∀ k : Nat, FnOk P w K mg base (L2.CX P w) (0 + k) T.a__law_lists T.fd__law_lists ["matter"] (spD K mg 1 (g__law_lists' k))
  | 0 => fn_no rfl
  | k + 1 => ok__law_lists T  (rec__law_lists T k)
theorem all__law_lists (T : Txt K mg) : FnOk P w K mg base (L2.CX P w) 20 T.a__law_lists T.fd__law_lists ["matter"] (spD K mg 1 g__law_lists) := rec__law_lists T 20
theorem rec__law_same (T : Txt K mg) : ∀ k : Nat, FnOk P w K mg base (L2.CX P w) (0 + k) T.a__law_same T.fd__law_same ["got", "goal"] (spD K mg 2 (g__law_same' k))
  | 0 => fn_no rfl
  | k + 1 => ok__law_same T  (rec__law_same T k)
theorem all__law_same (T : Txt K mg) : FnOk P w K mg base (L2.CX P w) 20 T.a__law_same T.fd__law_same ["got", "goal"] (spD K mg 2 g__law_same) := rec__law_same T 20
theorem all__law_pick (T : Txt K mg) : FnOk P w K mg base (L2.CX P w) 2 T.a__law_pick T.fd__law_pick ["urn", "goods_so", "many"] (spD K mg 3 g__law_pick) := ok__law_pick T (k := 1) (all__law_take (P := P) (w := w) (base := base) T |>.mono (by decide))
theorem all__law_net (T : Txt K mg) : FnOk P w K mg base (L2.CX P w) 1 T.a__law_net T.fd__law_net [] (spD K mg 0 g__law_net) := ok__law_net T (k := 0) 
theorem all__law_lent (T : Txt K mg) : FnOk P w K mg base (L2.CX P w) 1 T.a__law_lent T.fd__law_lent [] (spD K mg 0 g__law_lent) := ok__law_lent T (k := 0) 
theorem all__law_locks (T : Txt K mg) : FnOk P w K mg base (L2.CX P w) 3 T.a__law_locks T.fd__law_locks ["urn", "most"] (spD K mg 2 g__law_locks) := ok__law_locks T (k := 2) (all__law_pick (P := P) (w := w) (base := base) T |>.mono (by decide)) (all__law_take (P := P) (w := w) (base := base) T |>.mono (by decide))
theorem all__law_is_count (T : Txt K mg) : FnOk P w K mg base (L2.CX P w) 1 T.a__law_is_count T.fd__law_is_count ["own"] (spD K mg 1 g__law_is_count) := ok__law_is_count T (k := 0) 
theorem all__law_is_image (T : Txt K mg) : FnOk P w K mg base (L2.CX P w) 2 T.a__law_is_image T.fd__law_is_image ["own"] (spD K mg 1 g__law_is_image) := ok__law_is_image T (k := 1) (all__law_is_count (P := P) (w := w) (base := base) T |>.mono (by decide))
theorem all__law_is_lock (T : Txt K mg) : FnOk P w K mg base (L2.CX P w) 3 T.a__law_is_lock T.fd__law_is_lock ["own"] (spD K mg 1 g__law_is_lock) := ok__law_is_lock T (k := 2) (all__law_is_count (P := P) (w := w) (base := base) T |>.mono (by decide)) (all__law_is_image (P := P) (w := w) (base := base) T |>.mono (by decide))
theorem all__law_is_sheet (T : Txt K mg) : FnOk P w K mg base (L2.CX P w) 4 T.a__law_is_sheet T.fd__law_is_sheet ["net_so", "own"] (spD K mg 2 g__law_is_sheet) := ok__law_is_sheet T (k := 3) (all__law_is_count (P := P) (w := w) (base := base) T |>.mono (by decide)) (all__law_is_lock (P := P) (w := w) (base := base) T |>.mono (by decide))
theorem all__law_is_letter (T : Txt K mg) : FnOk P w K mg base (L2.CX P w) 5 T.a__law_is_letter T.fd__law_is_letter ["net_so", "own"] (spD K mg 2 g__law_is_letter) := ok__law_is_letter T (k := 4) (all__law_is_count (P := P) (w := w) (base := base) T |>.mono (by decide)) (all__law_is_image (P := P) (w := w) (base := base) T |>.mono (by decide)) (all__law_is_sheet (P := P) (w := w) (base := base) T |>.mono (by decide))
theorem all__law_fair_sheet (T : Txt K mg) : FnOk P w K mg base (L2.CX P w) 4 T.a__law_fair_sheet T.fd__law_fair_sheet ["urn"] (spD K mg 1 g__law_fair_sheet) := ok__law_fair_sheet T (k := 3) (all__law_locks (P := P) (w := w) (base := base) T |>.mono (by decide)) (all__law_net (P := P) (w := w) (base := base) T |>.mono (by decide)) (all__law_take (P := P) (w := w) (base := base) T |>.mono (by decide))
theorem all__law_fair (T : Txt K mg) : FnOk P w K mg base (L2.CX P w) 5 T.a__law_fair T.fd__law_fair ["urn"] (spD K mg 1 g__law_fair) := ok__law_fair T (k := 4) (all__law_fair_sheet (P := P) (w := w) (base := base) T |>.mono (by decide)) (all__law_take (P := P) (w := w) (base := base) T |>.mono (by decide))
theorem rec__law_bent (T : Txt K mg) : ∀ k : Nat, FnOk P w K mg base (L2.CX P w) (2 + k) T.a__law_bent T.fd__law_bent ["urn", "matter"] (spD K mg 2 (g__law_bent' k))
  | 0 => fn_no rfl
  | k + 1 => ok__law_bent T (all__law_of (P := P) (w := w) (base := base) T |>.mono (by first | omega | (show _ ≤ 2 + k; omega))) (all__law_take (P := P) (w := w) (base := base) T |>.mono (by first | omega | (show _ ≤ 2 + k; omega))) (rec__law_bent T k)
theorem all__law_bent (T : Txt K mg) : FnOk P w K mg base (L2.CX P w) 22 T.a__law_bent T.fd__law_bent ["urn", "matter"] (spD K mg 2 g__law_bent) := rec__law_bent T 20
theorem all_is_sheet (T : Txt K mg) : FnOk P w K mg base (L2.CX P w) 6 T.a_is_sheet T.fd_is_sheet ["net", "thing"] (spD K mg 2 g_is_sheet) := ok_is_sheet T (k := 5) (all__are_locks (P := P) (w := w) (base := base) T |>.mono (by decide)) (all_first_sheet (P := P) (w := w) (base := base) T |>.mono (by decide)) (all_is_below (P := P) (w := w) (base := base) T |>.mono (by decide)) (all_is_from (P := P) (w := w) (base := base) T |>.mono (by decide)) (all_is_tuple_of (P := P) (w := w) (base := base) T |>.mono (by decide)) (all_total (P := P) (w := w) (base := base) T |>.mono (by decide))
theorem all_is_letter (T : Txt K mg) : FnOk P w K mg base (L2.CX P w) 7 T.a_is_letter T.fd_is_letter ["net", "thing"] (spD K mg 2 g_is_letter) := ok_is_letter T (k := 6) (all_are_from (P := P) (w := w) (base := base) T |>.mono (by decide)) (all_is_below (P := P) (w := w) (base := base) T |>.mono (by decide)) (all_is_from (P := P) (w := w) (base := base) T |>.mono (by decide)) (all_is_image (P := P) (w := w) (base := base) T |>.mono (by decide)) (all_is_sheet (P := P) (w := w) (base := base) T |>.mono (by decide)) (all_is_tuple_of (P := P) (w := w) (base := base) T |>.mono (by decide))
theorem all__law_by_hand_right (T : Txt K mg) : FnOk P w K mg base (L2.CX P w) 21 T.a__law_by_hand_right T.fd__law_by_hand_right [] (spD K mg 0 g__law_by_hand_right) := ok__law_by_hand_right T (k := 20) (all__law_lent (P := P) (w := w) (base := base) T |>.mono (by decide)) (all__law_lists (P := P) (w := w) (base := base) T |>.mono (by decide)) (all__law_net (P := P) (w := w) (base := base) T |>.mono (by decide)) (all__law_same (P := P) (w := w) (base := base) T |>.mono (by decide)) (all_channel_of (P := P) (w := w) (base := base) T |>.mono (by decide)) (all_is_letter (P := P) (w := w) (base := base) T |>.mono (by decide))
theorem all_law (T : Txt K mg) : FnOk P w K mg base (L2.CX P w) 23 T.a_law T.fd_law ["script"] (spD K mg 1 g_law) := ok_law T (k := 22) (all__law_bent (P := P) (w := w) (base := base) T |>.mono (by decide)) (all__law_box (P := P) (w := w) (base := base) T |>.mono (by decide)) (all__law_by_hand_right (P := P) (w := w) (base := base) T |>.mono (by decide)) (all__law_cells (P := P) (w := w) (base := base) T |>.mono (by decide)) (all__law_fair (P := P) (w := w) (base := base) T |>.mono (by decide)) (all__law_is_letter (P := P) (w := w) (base := base) T |>.mono (by decide)) (all__law_lists (P := P) (w := w) (base := base) T |>.mono (by decide)) (all__law_net (P := P) (w := w) (base := base) T |>.mono (by decide)) (all__law_same (P := P) (w := w) (base := base) T |>.mono (by decide)) (all_channel_of (P := P) (w := w) (base := base) T |>.mono (by decide)) (all_is_letter (P := P) (w := w) (base := base) T |>.mono (by decide))
end
theorem all_mk {P : Program} {w : World} {K : PySem.W.Frag} {h : Heap} {mg : Str → Option Value} {fa : Addr} (math : Good g_law) (X : K.In h) (G : h.Ns mainGlobals mg) (hfa : mg "law" = some (.ref fa))
    {f_is_number : Addr} {od_is_number an_is_number : Option Addr} {sl_is_number : Array (Option Value)} {oc_is_number kV_is_number dc_is_number pm_is_number cd_is_number ct_is_number : Value}
    {f_is_from : Addr} {od_is_from an_is_from : Option Addr} {sl_is_from : Array (Option Value)} {oc_is_from kV_is_from dc_is_from pm_is_from cd_is_from ct_is_from : Value}
    {f_is_below : Addr} {od_is_below an_is_below : Option Addr} {sl_is_below : Array (Option Value)} {oc_is_below kV_is_below dc_is_below pm_is_below cd_is_below ct_is_below : Value}
    {f_is_tuple_of : Addr} {od_is_tuple_of an_is_tuple_of : Option Addr} {sl_is_tuple_of : Array (Option Value)} {oc_is_tuple_of kV_is_tuple_of dc_is_tuple_of pm_is_tuple_of cd_is_tuple_of ct_is_tuple_of : Value}
    {f_are_from : Addr} {od_are_from an_are_from : Option Addr} {sl_are_from : Array (Option Value)} {oc_are_from kV_are_from dc_are_from pm_are_from cd_are_from ct_are_from : Value}
    {f_are_unlike : Addr} {od_are_unlike an_are_unlike : Option Addr} {sl_are_unlike : Array (Option Value)} {oc_are_unlike kV_are_unlike dc_are_unlike pm_are_unlike cd_are_unlike ct_are_unlike : Value}
    {f_at_place : Addr} {od_at_place an_at_place : Option Addr} {sl_at_place : Array (Option Value)} {oc_at_place kV_at_place dc_at_place pm_at_place cd_at_place ct_at_place : Value}
    {f_is_image : Addr} {od_is_image an_is_image : Option Addr} {sl_is_image : Array (Option Value)} {oc_is_image kV_is_image dc_is_image pm_is_image cd_is_image ct_is_image : Value}
    {f_is_lock : Addr} {od_is_lock an_is_lock : Option Addr} {sl_is_lock : Array (Option Value)} {oc_is_lock kV_is_lock dc_is_lock pm_is_lock cd_is_lock ct_is_lock : Value}
    {f__are_locks : Addr} {od__are_locks an__are_locks : Option Addr} {sl__are_locks : Array (Option Value)} {oc__are_locks kV__are_locks dc__are_locks pm__are_locks cd__are_locks ct__are_locks : Value}
    {f_first_sheet : Addr} {od_first_sheet an_first_sheet : Option Addr} {sl_first_sheet : Array (Option Value)} {oc_first_sheet kV_first_sheet dc_first_sheet pm_first_sheet cd_first_sheet ct_first_sheet : Value}
    {f_total : Addr} {od_total an_total : Option Addr} {sl_total : Array (Option Value)} {oc_total kV_total dc_total pm_total cd_total ct_total : Value}
    {f_channel_of : Addr} {od_channel_of an_channel_of : Option Addr} {sl_channel_of : Array (Option Value)} {oc_channel_of kV_channel_of dc_channel_of pm_channel_of cd_channel_of ct_channel_of : Value}
    {f__law_box : Addr} {od__law_box an__law_box : Option Addr} {sl__law_box : Array (Option Value)} {oc__law_box kV__law_box dc__law_box pm__law_box cd__law_box ct__law_box : Value}
    {f__law_take : Addr} {od__law_take an__law_take : Option Addr} {sl__law_take : Array (Option Value)} {oc__law_take kV__law_take dc__law_take pm__law_take cd__law_take ct__law_take : Value}
    {f__law_cells : Addr} {od__law_cells an__law_cells : Option Addr} {sl__law_cells : Array (Option Value)} {oc__law_cells kV__law_cells dc__law_cells pm__law_cells cd__law_cells ct__law_cells : Value}
    {f__law_of : Addr} {od__law_of an__law_of : Option Addr} {sl__law_of : Array (Option Value)} {oc__law_of kV__law_of dc__law_of pm__law_of cd__law_of ct__law_of : Value}
    {f__law_lists : Addr} {od__law_lists an__law_lists : Option Addr} {sl__law_lists : Array (Option Value)} {oc__law_lists kV__law_lists dc__law_lists pm__law_lists cd__law_lists ct__law_lists : Value}
    {f__law_same : Addr} {od__law_same an__law_same : Option Addr} {sl__law_same : Array (Option Value)} {oc__law_same kV__law_same dc__law_same pm__law_same cd__law_same ct__law_same : Value}
    {f__law_pick : Addr} {od__law_pick an__law_pick : Option Addr} {sl__law_pick : Array (Option Value)} {oc__law_pick kV__law_pick dc__law_pick pm__law_pick cd__law_pick ct__law_pick : Value}
    {f__law_net : Addr} {od__law_net an__law_net : Option Addr} {sl__law_net : Array (Option Value)} {oc__law_net kV__law_net dc__law_net pm__law_net cd__law_net ct__law_net : Value}
    {f__law_lent : Addr} {od__law_lent an__law_lent : Option Addr} {sl__law_lent : Array (Option Value)} {oc__law_lent kV__law_lent dc__law_lent pm__law_lent cd__law_lent ct__law_lent : Value}
    {f__law_locks : Addr} {od__law_locks an__law_locks : Option Addr} {sl__law_locks : Array (Option Value)} {oc__law_locks kV__law_locks dc__law_locks pm__law_locks cd__law_locks ct__law_locks : Value}
    {f__law_is_count : Addr} {od__law_is_count an__law_is_count : Option Addr} {sl__law_is_count : Array (Option Value)} {oc__law_is_count kV__law_is_count dc__law_is_count pm__law_is_count cd__law_is_count ct__law_is_count : Value}
    {f__law_is_image : Addr} {od__law_is_image an__law_is_image : Option Addr} {sl__law_is_image : Array (Option Value)} {oc__law_is_image kV__law_is_image dc__law_is_image pm__law_is_image cd__law_is_image ct__law_is_image : Value}
    {f__law_is_lock : Addr} {od__law_is_lock an__law_is_lock : Option Addr} {sl__law_is_lock : Array (Option Value)} {oc__law_is_lock kV__law_is_lock dc__law_is_lock pm__law_is_lock cd__law_is_lock ct__law_is_lock : Value}
    {f__law_is_sheet : Addr} {od__law_is_sheet an__law_is_sheet : Option Addr} {sl__law_is_sheet : Array (Option Value)} {oc__law_is_sheet kV__law_is_sheet dc__law_is_sheet pm__law_is_sheet cd__law_is_sheet ct__law_is_sheet : Value}
    {f__law_is_letter : Addr} {od__law_is_letter an__law_is_letter : Option Addr} {sl__law_is_letter : Array (Option Value)} {oc__law_is_letter kV__law_is_letter dc__law_is_letter pm__law_is_letter cd__law_is_letter ct__law_is_letter : Value}
    {f__law_fair_sheet : Addr} {od__law_fair_sheet an__law_fair_sheet : Option Addr} {sl__law_fair_sheet : Array (Option Value)} {oc__law_fair_sheet kV__law_fair_sheet dc__law_fair_sheet pm__law_fair_sheet cd__law_fair_sheet ct__law_fair_sheet : Value}
    {f__law_fair : Addr} {od__law_fair an__law_fair : Option Addr} {sl__law_fair : Array (Option Value)} {oc__law_fair kV__law_fair dc__law_fair pm__law_fair cd__law_fair ct__law_fair : Value}
    {f__law_bent : Addr} {od__law_bent an__law_bent : Option Addr} {sl__law_bent : Array (Option Value)} {oc__law_bent kV__law_bent dc__law_bent pm__law_bent cd__law_bent ct__law_bent : Value}
    {f_is_sheet : Addr} {od_is_sheet an_is_sheet : Option Addr} {sl_is_sheet : Array (Option Value)} {oc_is_sheet kV_is_sheet dc_is_sheet pm_is_sheet cd_is_sheet ct_is_sheet : Value}
    {f_is_letter : Addr} {od_is_letter an_is_letter : Option Addr} {sl_is_letter : Array (Option Value)} {oc_is_letter kV_is_letter dc_is_letter pm_is_letter cd_is_letter ct_is_letter : Value}
    {f__law_by_hand_right : Addr} {od__law_by_hand_right an__law_by_hand_right : Option Addr} {sl__law_by_hand_right : Array (Option Value)} {oc__law_by_hand_right kV__law_by_hand_right dc__law_by_hand_right pm__law_by_hand_right cd__law_by_hand_right ct__law_by_hand_right : Value}
    {f_law : Addr} {od_law an_law : Option Addr} {sl_law : Array (Option Value)} {oc_law kV_law dc_law pm_law cd_law ct_law : Value}
    {cc_NoPlace ii_NoPlace : Addr} {od_NoPlace an_NoPlace : Option Addr} {sl_NoPlace : Array (Option Value)} {oc_NoPlace kV_NoPlace dc_NoPlace pm_NoPlace cd_NoPlace ct_NoPlace : Value}
    {ti__OF_NUMBERS tn__OF_NUMBERS : Addr} {td__OF_NUMBERS : Option Addr} {ts__OF_NUMBERS : Array (Option Value)} {tk0__OF_NUMBERS tk1__OF_NUMBERS : Tok}
    {ti__OF_SHEETS tn__OF_SHEETS : Addr} {td__OF_SHEETS : Option Addr} {ts__OF_SHEETS : Array (Option Value)} {tk0__OF_SHEETS tk1__OF_SHEETS : Tok}
    (a_is_number : PySem.W.nsIn K mainGlobals "is_number" = some (some (.ref f_is_number))) (l_is_number : K.lookup f_is_number = some ⟨oc_is_number, od_is_number, .func (PySem.W.fnOf "is_number" "is_number" (defArgs s_is_number) (defBody s_is_number) (defScope s_is_number) .none kV_is_number dc_is_number pm_is_number an_is_number cd_is_number ct_is_number), sl_is_number⟩) (c_is_number : PySem.W.codeIn K cd_is_number "is_number" = true) (k_is_number : PySem.W.keepIn K (.ref f_is_number) = true)
    (a_is_from : PySem.W.nsIn K mainGlobals "is_from" = some (some (.ref f_is_from))) (l_is_from : K.lookup f_is_from = some ⟨oc_is_from, od_is_from, .func (PySem.W.fnOf "is_from" "is_from" (defArgs s_is_from) (defBody s_is_from) (defScope s_is_from) .none kV_is_from dc_is_from pm_is_from an_is_from cd_is_from ct_is_from), sl_is_from⟩) (c_is_from : PySem.W.codeIn K cd_is_from "is_from" = true) (k_is_from : PySem.W.keepIn K (.ref f_is_from) = true)
    (a_is_below : PySem.W.nsIn K mainGlobals "is_below" = some (some (.ref f_is_below))) (l_is_below : K.lookup f_is_below = some ⟨oc_is_below, od_is_below, .func (PySem.W.fnOf "is_below" "is_below" (defArgs s_is_below) (defBody s_is_below) (defScope s_is_below) .none kV_is_below dc_is_below pm_is_below an_is_below cd_is_below ct_is_below), sl_is_below⟩) (c_is_below : PySem.W.codeIn K cd_is_below "is_below" = true) (k_is_below : PySem.W.keepIn K (.ref f_is_below) = true)
    (a_is_tuple_of : PySem.W.nsIn K mainGlobals "is_tuple_of" = some (some (.ref f_is_tuple_of))) (l_is_tuple_of : K.lookup f_is_tuple_of = some ⟨oc_is_tuple_of, od_is_tuple_of, .func (PySem.W.fnOf "is_tuple_of" "is_tuple_of" (defArgs s_is_tuple_of) (defBody s_is_tuple_of) (defScope s_is_tuple_of) .none kV_is_tuple_of dc_is_tuple_of pm_is_tuple_of an_is_tuple_of cd_is_tuple_of ct_is_tuple_of), sl_is_tuple_of⟩) (c_is_tuple_of : PySem.W.codeIn K cd_is_tuple_of "is_tuple_of" = true) (k_is_tuple_of : PySem.W.keepIn K (.ref f_is_tuple_of) = true)
    (a_are_from : PySem.W.nsIn K mainGlobals "are_from" = some (some (.ref f_are_from))) (l_are_from : K.lookup f_are_from = some ⟨oc_are_from, od_are_from, .func (PySem.W.fnOf "are_from" "are_from" (defArgs s_are_from) (defBody s_are_from) (defScope s_are_from) .none kV_are_from dc_are_from pm_are_from an_are_from cd_are_from ct_are_from), sl_are_from⟩) (c_are_from : PySem.W.codeIn K cd_are_from "are_from" = true) (k_are_from : PySem.W.keepIn K (.ref f_are_from) = true)
    (a_are_unlike : PySem.W.nsIn K mainGlobals "are_unlike" = some (some (.ref f_are_unlike))) (l_are_unlike : K.lookup f_are_unlike = some ⟨oc_are_unlike, od_are_unlike, .func (PySem.W.fnOf "are_unlike" "are_unlike" (defArgs s_are_unlike) (defBody s_are_unlike) (defScope s_are_unlike) .none kV_are_unlike dc_are_unlike pm_are_unlike an_are_unlike cd_are_unlike ct_are_unlike), sl_are_unlike⟩) (c_are_unlike : PySem.W.codeIn K cd_are_unlike "are_unlike" = true) (k_are_unlike : PySem.W.keepIn K (.ref f_are_unlike) = true)
    (a_at_place : PySem.W.nsIn K mainGlobals "at_place" = some (some (.ref f_at_place))) (l_at_place : K.lookup f_at_place = some ⟨oc_at_place, od_at_place, .func (PySem.W.fnOf "at_place" "at_place" (defArgs s_at_place) (defBody s_at_place) (defScope s_at_place) .none kV_at_place dc_at_place pm_at_place an_at_place cd_at_place ct_at_place), sl_at_place⟩) (c_at_place : PySem.W.codeIn K cd_at_place "at_place" = true) (k_at_place : PySem.W.keepIn K (.ref f_at_place) = true)
    (a_is_image : PySem.W.nsIn K mainGlobals "is_image" = some (some (.ref f_is_image))) (l_is_image : K.lookup f_is_image = some ⟨oc_is_image, od_is_image, .func (PySem.W.fnOf "is_image" "is_image" (defArgs s_is_image) (defBody s_is_image) (defScope s_is_image) .none kV_is_image dc_is_image pm_is_image an_is_image cd_is_image ct_is_image), sl_is_image⟩) (c_is_image : PySem.W.codeIn K cd_is_image "is_image" = true) (k_is_image : PySem.W.keepIn K (.ref f_is_image) = true)
    (a_is_lock : PySem.W.nsIn K mainGlobals "is_lock" = some (some (.ref f_is_lock))) (l_is_lock : K.lookup f_is_lock = some ⟨oc_is_lock, od_is_lock, .func (PySem.W.fnOf "is_lock" "is_lock" (defArgs s_is_lock) (defBody s_is_lock) (defScope s_is_lock) .none kV_is_lock dc_is_lock pm_is_lock an_is_lock cd_is_lock ct_is_lock), sl_is_lock⟩) (c_is_lock : PySem.W.codeIn K cd_is_lock "is_lock" = true) (k_is_lock : PySem.W.keepIn K (.ref f_is_lock) = true)
    (a__are_locks : PySem.W.nsIn K mainGlobals "_are_locks" = some (some (.ref f__are_locks))) (l__are_locks : K.lookup f__are_locks = some ⟨oc__are_locks, od__are_locks, .func (PySem.W.fnOf "_are_locks" "_are_locks" (defArgs s__are_locks) (defBody s__are_locks) (defScope s__are_locks) .none kV__are_locks dc__are_locks pm__are_locks an__are_locks cd__are_locks ct__are_locks), sl__are_locks⟩) (c__are_locks : PySem.W.codeIn K cd__are_locks "_are_locks" = true) (k__are_locks : PySem.W.keepIn K (.ref f__are_locks) = true)
    (a_first_sheet : PySem.W.nsIn K mainGlobals "first_sheet" = some (some (.ref f_first_sheet))) (l_first_sheet : K.lookup f_first_sheet = some ⟨oc_first_sheet, od_first_sheet, .func (PySem.W.fnOf "first_sheet" "first_sheet" (defArgs s_first_sheet) (defBody s_first_sheet) (defScope s_first_sheet) .none kV_first_sheet dc_first_sheet pm_first_sheet an_first_sheet cd_first_sheet ct_first_sheet), sl_first_sheet⟩) (c_first_sheet : PySem.W.codeIn K cd_first_sheet "first_sheet" = true) (k_first_sheet : PySem.W.keepIn K (.ref f_first_sheet) = true)
    (a_total : PySem.W.nsIn K mainGlobals "total" = some (some (.ref f_total))) (l_total : K.lookup f_total = some ⟨oc_total, od_total, .func (PySem.W.fnOf "total" "total" (defArgs s_total) (defBody s_total) (defScope s_total) .none kV_total dc_total pm_total an_total cd_total ct_total), sl_total⟩) (c_total : PySem.W.codeIn K cd_total "total" = true) (k_total : PySem.W.keepIn K (.ref f_total) = true)
    (a_channel_of : PySem.W.nsIn K mainGlobals "channel_of" = some (some (.ref f_channel_of))) (l_channel_of : K.lookup f_channel_of = some ⟨oc_channel_of, od_channel_of, .func (PySem.W.fnOf "channel_of" "channel_of" (defArgs s_channel_of) (defBody s_channel_of) (defScope s_channel_of) .none kV_channel_of dc_channel_of pm_channel_of an_channel_of cd_channel_of ct_channel_of), sl_channel_of⟩) (c_channel_of : PySem.W.codeIn K cd_channel_of "channel_of" = true) (k_channel_of : PySem.W.keepIn K (.ref f_channel_of) = true)
    (a__law_box : PySem.W.nsIn K mainGlobals "_law_box" = some (some (.ref f__law_box))) (l__law_box : K.lookup f__law_box = some ⟨oc__law_box, od__law_box, .func (PySem.W.fnOf "_law_box" "_law_box" (defArgs s__law_box) (defBody s__law_box) (defScope s__law_box) .none kV__law_box dc__law_box pm__law_box an__law_box cd__law_box ct__law_box), sl__law_box⟩) (c__law_box : PySem.W.codeIn K cd__law_box "_law_box" = true) (k__law_box : PySem.W.keepIn K (.ref f__law_box) = true)
    (a__law_take : PySem.W.nsIn K mainGlobals "_law_take" = some (some (.ref f__law_take))) (l__law_take : K.lookup f__law_take = some ⟨oc__law_take, od__law_take, .func (PySem.W.fnOf "_law_take" "_law_take" (defArgs s__law_take) (defBody s__law_take) (defScope s__law_take) .none kV__law_take dc__law_take pm__law_take an__law_take cd__law_take ct__law_take), sl__law_take⟩) (c__law_take : PySem.W.codeIn K cd__law_take "_law_take" = true) (k__law_take : PySem.W.keepIn K (.ref f__law_take) = true)
    (a__law_cells : PySem.W.nsIn K mainGlobals "_law_cells" = some (some (.ref f__law_cells))) (l__law_cells : K.lookup f__law_cells = some ⟨oc__law_cells, od__law_cells, .func (PySem.W.fnOf "_law_cells" "_law_cells" (defArgs s__law_cells) (defBody s__law_cells) (defScope s__law_cells) .none kV__law_cells dc__law_cells pm__law_cells an__law_cells cd__law_cells ct__law_cells), sl__law_cells⟩) (c__law_cells : PySem.W.codeIn K cd__law_cells "_law_cells" = true) (k__law_cells : PySem.W.keepIn K (.ref f__law_cells) = true)
    (a__law_of : PySem.W.nsIn K mainGlobals "_law_of" = some (some (.ref f__law_of))) (l__law_of : K.lookup f__law_of = some ⟨oc__law_of, od__law_of, .func (PySem.W.fnOf "_law_of" "_law_of" (defArgs s__law_of) (defBody s__law_of) (defScope s__law_of) .none kV__law_of dc__law_of pm__law_of an__law_of cd__law_of ct__law_of), sl__law_of⟩) (c__law_of : PySem.W.codeIn K cd__law_of "_law_of" = true) (k__law_of : PySem.W.keepIn K (.ref f__law_of) = true)
    (a__law_lists : PySem.W.nsIn K mainGlobals "_law_lists" = some (some (.ref f__law_lists))) (l__law_lists : K.lookup f__law_lists = some ⟨oc__law_lists, od__law_lists, .func (PySem.W.fnOf "_law_lists" "_law_lists" (defArgs s__law_lists) (defBody s__law_lists) (defScope s__law_lists) .none kV__law_lists dc__law_lists pm__law_lists an__law_lists cd__law_lists ct__law_lists), sl__law_lists⟩) (c__law_lists : PySem.W.codeIn K cd__law_lists "_law_lists" = true) (k__law_lists : PySem.W.keepIn K (.ref f__law_lists) = true)
    (a__law_same : PySem.W.nsIn K mainGlobals "_law_same" = some (some (.ref f__law_same))) (l__law_same : K.lookup f__law_same = some ⟨oc__law_same, od__law_same, .func (PySem.W.fnOf "_law_same" "_law_same" (defArgs s__law_same) (defBody s__law_same) (defScope s__law_same) .none kV__law_same dc__law_same pm__law_same an__law_same cd__law_same ct__law_same), sl__law_same⟩) (c__law_same : PySem.W.codeIn K cd__law_same "_law_same" = true) (k__law_same : PySem.W.keepIn K (.ref f__law_same) = true)
    (a__law_pick : PySem.W.nsIn K mainGlobals "_law_pick" = some (some (.ref f__law_pick))) (l__law_pick : K.lookup f__law_pick = some ⟨oc__law_pick, od__law_pick, .func (PySem.W.fnOf "_law_pick" "_law_pick" (defArgs s__law_pick) (defBody s__law_pick) (defScope s__law_pick) .none kV__law_pick dc__law_pick pm__law_pick an__law_pick cd__law_pick ct__law_pick), sl__law_pick⟩) (c__law_pick : PySem.W.codeIn K cd__law_pick "_law_pick" = true) (k__law_pick : PySem.W.keepIn K (.ref f__law_pick) = true)
    (a__law_net : PySem.W.nsIn K mainGlobals "_law_net" = some (some (.ref f__law_net))) (l__law_net : K.lookup f__law_net = some ⟨oc__law_net, od__law_net, .func (PySem.W.fnOf "_law_net" "_law_net" (defArgs s__law_net) (defBody s__law_net) (defScope s__law_net) .none kV__law_net dc__law_net pm__law_net an__law_net cd__law_net ct__law_net), sl__law_net⟩) (c__law_net : PySem.W.codeIn K cd__law_net "_law_net" = true) (k__law_net : PySem.W.keepIn K (.ref f__law_net) = true)
    (a__law_lent : PySem.W.nsIn K mainGlobals "_law_lent" = some (some (.ref f__law_lent))) (l__law_lent : K.lookup f__law_lent = some ⟨oc__law_lent, od__law_lent, .func (PySem.W.fnOf "_law_lent" "_law_lent" (defArgs s__law_lent) (defBody s__law_lent) (defScope s__law_lent) .none kV__law_lent dc__law_lent pm__law_lent an__law_lent cd__law_lent ct__law_lent), sl__law_lent⟩) (c__law_lent : PySem.W.codeIn K cd__law_lent "_law_lent" = true) (k__law_lent : PySem.W.keepIn K (.ref f__law_lent) = true)
    (a__law_locks : PySem.W.nsIn K mainGlobals "_law_locks" = some (some (.ref f__law_locks))) (l__law_locks : K.lookup f__law_locks = some ⟨oc__law_locks, od__law_locks, .func (PySem.W.fnOf "_law_locks" "_law_locks" (defArgs s__law_locks) (defBody s__law_locks) (defScope s__law_locks) .none kV__law_locks dc__law_locks pm__law_locks an__law_locks cd__law_locks ct__law_locks), sl__law_locks⟩) (c__law_locks : PySem.W.codeIn K cd__law_locks "_law_locks" = true) (k__law_locks : PySem.W.keepIn K (.ref f__law_locks) = true)
    (a__law_is_count : PySem.W.nsIn K mainGlobals "_law_is_count" = some (some (.ref f__law_is_count))) (l__law_is_count : K.lookup f__law_is_count = some ⟨oc__law_is_count, od__law_is_count, .func (PySem.W.fnOf "_law_is_count" "_law_is_count" (defArgs s__law_is_count) (defBody s__law_is_count) (defScope s__law_is_count) .none kV__law_is_count dc__law_is_count pm__law_is_count an__law_is_count cd__law_is_count ct__law_is_count), sl__law_is_count⟩) (c__law_is_count : PySem.W.codeIn K cd__law_is_count "_law_is_count" = true) (k__law_is_count : PySem.W.keepIn K (.ref f__law_is_count) = true)
    (a__law_is_image : PySem.W.nsIn K mainGlobals "_law_is_image" = some (some (.ref f__law_is_image))) (l__law_is_image : K.lookup f__law_is_image = some ⟨oc__law_is_image, od__law_is_image, .func (PySem.W.fnOf "_law_is_image" "_law_is_image" (defArgs s__law_is_image) (defBody s__law_is_image) (defScope s__law_is_image) .none kV__law_is_image dc__law_is_image pm__law_is_image an__law_is_image cd__law_is_image ct__law_is_image), sl__law_is_image⟩) (c__law_is_image : PySem.W.codeIn K cd__law_is_image "_law_is_image" = true) (k__law_is_image : PySem.W.keepIn K (.ref f__law_is_image) = true)
    (a__law_is_lock : PySem.W.nsIn K mainGlobals "_law_is_lock" = some (some (.ref f__law_is_lock))) (l__law_is_lock : K.lookup f__law_is_lock = some ⟨oc__law_is_lock, od__law_is_lock, .func (PySem.W.fnOf "_law_is_lock" "_law_is_lock" (defArgs s__law_is_lock) (defBody s__law_is_lock) (defScope s__law_is_lock) .none kV__law_is_lock dc__law_is_lock pm__law_is_lock an__law_is_lock cd__law_is_lock ct__law_is_lock), sl__law_is_lock⟩) (c__law_is_lock : PySem.W.codeIn K cd__law_is_lock "_law_is_lock" = true) (k__law_is_lock : PySem.W.keepIn K (.ref f__law_is_lock) = true)
    (a__law_is_sheet : PySem.W.nsIn K mainGlobals "_law_is_sheet" = some (some (.ref f__law_is_sheet))) (l__law_is_sheet : K.lookup f__law_is_sheet = some ⟨oc__law_is_sheet, od__law_is_sheet, .func (PySem.W.fnOf "_law_is_sheet" "_law_is_sheet" (defArgs s__law_is_sheet) (defBody s__law_is_sheet) (defScope s__law_is_sheet) .none kV__law_is_sheet dc__law_is_sheet pm__law_is_sheet an__law_is_sheet cd__law_is_sheet ct__law_is_sheet), sl__law_is_sheet⟩) (c__law_is_sheet : PySem.W.codeIn K cd__law_is_sheet "_law_is_sheet" = true) (k__law_is_sheet : PySem.W.keepIn K (.ref f__law_is_sheet) = true)
    (a__law_is_letter : PySem.W.nsIn K mainGlobals "_law_is_letter" = some (some (.ref f__law_is_letter))) (l__law_is_letter : K.lookup f__law_is_letter = some ⟨oc__law_is_letter, od__law_is_letter, .func (PySem.W.fnOf "_law_is_letter" "_law_is_letter" (defArgs s__law_is_letter) (defBody s__law_is_letter) (defScope s__law_is_letter) .none kV__law_is_letter dc__law_is_letter pm__law_is_letter an__law_is_letter cd__law_is_letter ct__law_is_letter), sl__law_is_letter⟩) (c__law_is_letter : PySem.W.codeIn K cd__law_is_letter "_law_is_letter" = true) (k__law_is_letter : PySem.W.keepIn K (.ref f__law_is_letter) = true)
    (a__law_fair_sheet : PySem.W.nsIn K mainGlobals "_law_fair_sheet" = some (some (.ref f__law_fair_sheet))) (l__law_fair_sheet : K.lookup f__law_fair_sheet = some ⟨oc__law_fair_sheet, od__law_fair_sheet, .func (PySem.W.fnOf "_law_fair_sheet" "_law_fair_sheet" (defArgs s__law_fair_sheet) (defBody s__law_fair_sheet) (defScope s__law_fair_sheet) .none kV__law_fair_sheet dc__law_fair_sheet pm__law_fair_sheet an__law_fair_sheet cd__law_fair_sheet ct__law_fair_sheet), sl__law_fair_sheet⟩) (c__law_fair_sheet : PySem.W.codeIn K cd__law_fair_sheet "_law_fair_sheet" = true) (k__law_fair_sheet : PySem.W.keepIn K (.ref f__law_fair_sheet) = true)
    (a__law_fair : PySem.W.nsIn K mainGlobals "_law_fair" = some (some (.ref f__law_fair))) (l__law_fair : K.lookup f__law_fair = some ⟨oc__law_fair, od__law_fair, .func (PySem.W.fnOf "_law_fair" "_law_fair" (defArgs s__law_fair) (defBody s__law_fair) (defScope s__law_fair) .none kV__law_fair dc__law_fair pm__law_fair an__law_fair cd__law_fair ct__law_fair), sl__law_fair⟩) (c__law_fair : PySem.W.codeIn K cd__law_fair "_law_fair" = true) (k__law_fair : PySem.W.keepIn K (.ref f__law_fair) = true)
    (a__law_bent : PySem.W.nsIn K mainGlobals "_law_bent" = some (some (.ref f__law_bent))) (l__law_bent : K.lookup f__law_bent = some ⟨oc__law_bent, od__law_bent, .func (PySem.W.fnOf "_law_bent" "_law_bent" (defArgs s__law_bent) (defBody s__law_bent) (defScope s__law_bent) .none kV__law_bent dc__law_bent pm__law_bent an__law_bent cd__law_bent ct__law_bent), sl__law_bent⟩) (c__law_bent : PySem.W.codeIn K cd__law_bent "_law_bent" = true) (k__law_bent : PySem.W.keepIn K (.ref f__law_bent) = true)
    (a_is_sheet : PySem.W.nsIn K mainGlobals "is_sheet" = some (some (.ref f_is_sheet))) (l_is_sheet : K.lookup f_is_sheet = some ⟨oc_is_sheet, od_is_sheet, .func (PySem.W.fnOf "is_sheet" "is_sheet" (defArgs s_is_sheet) (defBody s_is_sheet) (defScope s_is_sheet) .none kV_is_sheet dc_is_sheet pm_is_sheet an_is_sheet cd_is_sheet ct_is_sheet), sl_is_sheet⟩) (c_is_sheet : PySem.W.codeIn K cd_is_sheet "is_sheet" = true) (k_is_sheet : PySem.W.keepIn K (.ref f_is_sheet) = true)
    (a_is_letter : PySem.W.nsIn K mainGlobals "is_letter" = some (some (.ref f_is_letter))) (l_is_letter : K.lookup f_is_letter = some ⟨oc_is_letter, od_is_letter, .func (PySem.W.fnOf "is_letter" "is_letter" (defArgs s_is_letter) (defBody s_is_letter) (defScope s_is_letter) .none kV_is_letter dc_is_letter pm_is_letter an_is_letter cd_is_letter ct_is_letter), sl_is_letter⟩) (c_is_letter : PySem.W.codeIn K cd_is_letter "is_letter" = true) (k_is_letter : PySem.W.keepIn K (.ref f_is_letter) = true)
    (a__law_by_hand_right : PySem.W.nsIn K mainGlobals "_law_by_hand_right" = some (some (.ref f__law_by_hand_right))) (l__law_by_hand_right : K.lookup f__law_by_hand_right = some ⟨oc__law_by_hand_right, od__law_by_hand_right, .func (PySem.W.fnOf "_law_by_hand_right" "_law_by_hand_right" (defArgs s__law_by_hand_right) (defBody s__law_by_hand_right) (defScope s__law_by_hand_right) .none kV__law_by_hand_right dc__law_by_hand_right pm__law_by_hand_right an__law_by_hand_right cd__law_by_hand_right ct__law_by_hand_right), sl__law_by_hand_right⟩) (c__law_by_hand_right : PySem.W.codeIn K cd__law_by_hand_right "_law_by_hand_right" = true) (k__law_by_hand_right : PySem.W.keepIn K (.ref f__law_by_hand_right) = true)
    (a_law : PySem.W.nsIn K mainGlobals "law" = some (some (.ref f_law))) (l_law : K.lookup f_law = some ⟨oc_law, od_law, .func (PySem.W.fnOf "law" "law" (defArgs s_law) (defBody s_law) (defScope s_law) .none kV_law dc_law pm_law an_law cd_law ct_law), sl_law⟩) (c_law : PySem.W.codeIn K cd_law "law" = true) (k_law : PySem.W.keepIn K (.ref f_law) = true)
    (aC_NoPlace : PySem.W.nsIn K mainGlobals "NoPlace" = some (some (.ref cc_NoPlace)))
    (iC_NoPlace : PySem.W.findIn K (.ref cc_NoPlace) "__init__" = some (some (.ref ii_NoPlace)))
    (lI_NoPlace : K.lookup ii_NoPlace = some ⟨oc_NoPlace, od_NoPlace, .func (PySem.W.fnOf "__init__" "NoPlace.__init__" (defArgs s_ini_NoPlace) (defBody s_ini_NoPlace) (defScope s_ini_NoPlace) .none kV_NoPlace dc_NoPlace pm_NoPlace an_NoPlace cd_NoPlace ct_NoPlace), sl_NoPlace⟩)
    (cI_NoPlace : PySem.W.codeIn K cd_NoPlace "NoPlace.__init__" = true)
    (kI_NoPlace : PySem.W.keepIn K (.ref ii_NoPlace) = true)
    (tI_NoPlace : PySem.W.typeIn K (.ref ii_NoPlace) = some (.type "function"))
    (xi_NoPlace : PySem.W.excInitIn K cc_NoPlace [.type "LookupError", .type "Exception", .type "BaseException", .type "object"] "LookupError.__new__" = true)
    (xo_NoPlace : PySem.W.excOver K cc_NoPlace [.type "LookupError", .type "Exception", .type "BaseException", .type "object"] = true)
    (sa_NoPlace : PySem.W.findIn K (.ref cc_NoPlace) "__setattr__" = some (some (.builtin "object.__setattr__")))
    (hd_NoPlace : PySem.W.hasDictIn K cc_NoPlace = true)
    (exC_NoPlace : PySem.W.subIn K (.ref cc_NoPlace) (.type "BaseException") = some true)
    (tyC_NoPlace : PySem.W.typeIn K (.ref cc_NoPlace) = some (.type "type"))
    (kC_NoPlace : PySem.W.keepIn K (.ref cc_NoPlace) = true)
    (no_NoPlace : PySem.W.findIn K (.ref cc_NoPlace) "place" = some none)
    (ga_NoPlace : PySem.W.findIn K (.ref cc_NoPlace) "__getattribute__" = some (some (.builtin "BaseException.__getattribute__")))
    (gg_NoPlace : PySem.W.findIn K (.ref cc_NoPlace) "__getattr__" = some none)
    (sC_NoPlace : PySem.W.subIn K (.ref cc_NoPlace) (.ref cc_NoPlace) = some true)
    (z_LookupError : PySem.W.nsIn K mainGlobals "LookupError" = some none)
    (vV_LookupError : PySem.W.findCls K (.type "LookupError") (.type "type") "__init__" = some (.val (.builtin "LookupError.__init__")))
    (ag__OF_NUMBERS : PySem.W.nsIn K mainGlobals "_OF_NUMBERS" = some (some (.ref ti__OF_NUMBERS)))
    (al__OF_NUMBERS : K.lookup ti__OF_NUMBERS = some ⟨.type "tuple", td__OF_NUMBERS, .seq #[.str (PySem.Str.ofString "turn") tk0__OF_NUMBERS, .str (PySem.Str.ofString "secret") tk1__OF_NUMBERS] tn__OF_NUMBERS, ts__OF_NUMBERS⟩)
    (ag__OF_SHEETS : PySem.W.nsIn K mainGlobals "_OF_SHEETS" = some (some (.ref ti__OF_SHEETS)))
    (al__OF_SHEETS : K.lookup ti__OF_SHEETS = some ⟨.type "tuple", td__OF_SHEETS, .seq #[.str (PySem.Str.ofString "offer") tk0__OF_SHEETS, .str (PySem.Str.ofString "agree") tk1__OF_SHEETS] tn__OF_SHEETS, ts__OF_SHEETS⟩)
    (z_abs : PySem.W.nsIn K mainGlobals "abs" = some none)
    (z_all : PySem.W.nsIn K mainGlobals "all" = some none)
    (z_bool : PySem.W.nsIn K mainGlobals "bool" = some none)
    (z_enumerate : PySem.W.nsIn K mainGlobals "enumerate" = some none)
    (z_int : PySem.W.nsIn K mainGlobals "int" = some none)
    (z_isinstance : PySem.W.nsIn K mainGlobals "isinstance" = some none)
    (z_len : PySem.W.nsIn K mainGlobals "len" = some none)
    (z_list : PySem.W.nsIn K mainGlobals "list" = some none)
    (z_min : PySem.W.nsIn K mainGlobals "min" = some none)
    (z_range : PySem.W.nsIn K mainGlobals "range" = some none)
    (z_set : PySem.W.nsIn K mainGlobals "set" = some none)
    (z_str : PySem.W.nsIn K mainGlobals "str" = some none)
    (z_sum : PySem.W.nsIn K mainGlobals "sum" = some none)
    (z_tuple : PySem.W.nsIn K mainGlobals "tuple" = some none)
    (z_zip : PySem.W.nsIn K mainGlobals "zip" = some none) :
    ∃ fd : FuncData, (∀ (s : Shared) (v : Value), BindsTo s fd ⟨[v], []⟩ [("script", v)]) ∧ ∀ base : Heap, K.In base → base.Ns mainGlobals mg → FnOk P w K mg base (L2.CX P w) 23 fa fd ["script"] (spLaw K) := by
  have e := hfa.symm.trans (PySem.W.mg_of X G a_law)
  cases e
  have F_is_number := fun_mk (st := s_is_number) l_is_number c_is_number k_is_number
  have b_is_number := F_is_number.binds (ps := ["thing"]) fun _ _ _ _ _ _ us hl => match us, hl with | [_], _ => rfl
  have F_is_from := fun_mk (st := s_is_from) l_is_from c_is_from k_is_from
  have b_is_from := F_is_from.binds (ps := ["thing", "least"]) fun _ _ _ _ _ _ us hl => match us, hl with | [_, _], _ => rfl
  have F_is_below := fun_mk (st := s_is_below) l_is_below c_is_below k_is_below
  have b_is_below := F_is_below.binds (ps := ["thing", "many"]) fun _ _ _ _ _ _ us hl => match us, hl with | [_, _], _ => rfl
  have F_is_tuple_of := fun_mk (st := s_is_tuple_of) l_is_tuple_of c_is_tuple_of k_is_tuple_of
  have b_is_tuple_of := F_is_tuple_of.binds (ps := ["thing", "many"]) fun _ _ _ _ _ _ us hl => match us, hl with | [_, _], _ => rfl
  have F_are_from := fun_mk (st := s_are_from) l_are_from c_are_from k_are_from
  have b_are_from := F_are_from.binds (ps := ["thing", "least"]) fun _ _ _ _ _ _ us hl => match us, hl with | [_, _], _ => rfl
  have F_are_unlike := fun_mk (st := s_are_unlike) l_are_unlike c_are_unlike k_are_unlike
  have b_are_unlike := F_are_unlike.binds (ps := ["values"]) fun _ _ _ _ _ _ us hl => match us, hl with | [_], _ => rfl
  have F_at_place := fun_mk (st := s_at_place) l_at_place c_at_place k_at_place
  have b_at_place := F_at_place.binds (ps := ["row", "place"]) fun _ _ _ _ _ _ us hl => match us, hl with | [_, _], _ => rfl
  have F_is_image := fun_mk (st := s_is_image) l_is_image c_is_image k_is_image
  have b_is_image := F_is_image.binds (ps := ["thing"]) fun _ _ _ _ _ _ us hl => match us, hl with | [_], _ => rfl
  have F_is_lock := fun_mk (st := s_is_lock) l_is_lock c_is_lock k_is_lock
  have b_is_lock := F_is_lock.binds (ps := ["thing"]) fun _ _ _ _ _ _ us hl => match us, hl with | [_], _ => rfl
  have F__are_locks := fun_mk (st := s__are_locks) l__are_locks c__are_locks k__are_locks
  have b__are_locks := F__are_locks.binds (ps := ["thing"]) fun _ _ _ _ _ _ us hl => match us, hl with | [_], _ => rfl
  have F_first_sheet := fun_mk (st := s_first_sheet) l_first_sheet c_first_sheet k_first_sheet
  have b_first_sheet := F_first_sheet.binds (ps := ["net", "channel"]) fun _ _ _ _ _ _ us hl => match us, hl with | [_, _], _ => rfl
  have F_total := fun_mk (st := s_total) l_total c_total k_total
  have b_total := F_total.binds (ps := ["sheet"]) fun _ _ _ _ _ _ us hl => match us, hl with | [_], _ => rfl
  have F_channel_of := fun_mk (st := s_channel_of) l_channel_of c_channel_of k_channel_of
  have b_channel_of := F_channel_of.binds (ps := ["letter"]) fun _ _ _ _ _ _ us hl => match us, hl with | [_], _ => rfl
  have F__law_box := fun_mk (st := s__law_box) l__law_box c__law_box k__law_box
  have b__law_box := F__law_box.binds (ps := ["script", "k"]) fun _ _ _ _ _ _ us hl => match us, hl with | [_, _], _ => rfl
  have F__law_take := fun_mk (st := s__law_take) l__law_take c__law_take k__law_take
  have b__law_take := F__law_take.binds (ps := ["urn", "low_so"]) fun _ _ _ _ _ _ us hl => match us, hl with | [_, _], _ => rfl
  have F__law_cells := fun_mk (st := s__law_cells) l__law_cells c__law_cells k__law_cells
  have b__law_cells := F__law_cells.binds (ps := ["script", "top"]) fun _ _ _ _ _ _ us hl => match us, hl with | [_, _], _ => rfl
  have F__law_of := fun_mk (st := s__law_of) l__law_of c__law_of k__law_of
  have b__law_of := F__law_of.binds (ps := ["urn", "some_so"]) fun _ _ _ _ _ _ us hl => match us, hl with | [_, _], _ => rfl
  have F__law_lists := fun_mk (st := s__law_lists) l__law_lists c__law_lists k__law_lists
  have b__law_lists := F__law_lists.binds (ps := ["matter"]) fun _ _ _ _ _ _ us hl => match us, hl with | [_], _ => rfl
  have F__law_same := fun_mk (st := s__law_same) l__law_same c__law_same k__law_same
  have b__law_same := F__law_same.binds (ps := ["got", "goal"]) fun _ _ _ _ _ _ us hl => match us, hl with | [_, _], _ => rfl
  have F__law_pick := fun_mk (st := s__law_pick) l__law_pick c__law_pick k__law_pick
  have b__law_pick := F__law_pick.binds (ps := ["urn", "goods_so", "many"]) fun _ _ _ _ _ _ us hl => match us, hl with | [_, _, _], _ => rfl
  have F__law_net := fun_mk (st := s__law_net) l__law_net c__law_net k__law_net
  have b__law_net := F__law_net.binds (ps := []) fun _ _ _ _ _ _ us hl => match us, hl with | [], _ => rfl
  have F__law_lent := fun_mk (st := s__law_lent) l__law_lent c__law_lent k__law_lent
  have b__law_lent := F__law_lent.binds (ps := []) fun _ _ _ _ _ _ us hl => match us, hl with | [], _ => rfl
  have F__law_locks := fun_mk (st := s__law_locks) l__law_locks c__law_locks k__law_locks
  have b__law_locks := F__law_locks.binds (ps := ["urn", "most"]) fun _ _ _ _ _ _ us hl => match us, hl with | [_, _], _ => rfl
  have F__law_is_count := fun_mk (st := s__law_is_count) l__law_is_count c__law_is_count k__law_is_count
  have b__law_is_count := F__law_is_count.binds (ps := ["own"]) fun _ _ _ _ _ _ us hl => match us, hl with | [_], _ => rfl
  have F__law_is_image := fun_mk (st := s__law_is_image) l__law_is_image c__law_is_image k__law_is_image
  have b__law_is_image := F__law_is_image.binds (ps := ["own"]) fun _ _ _ _ _ _ us hl => match us, hl with | [_], _ => rfl
  have F__law_is_lock := fun_mk (st := s__law_is_lock) l__law_is_lock c__law_is_lock k__law_is_lock
  have b__law_is_lock := F__law_is_lock.binds (ps := ["own"]) fun _ _ _ _ _ _ us hl => match us, hl with | [_], _ => rfl
  have F__law_is_sheet := fun_mk (st := s__law_is_sheet) l__law_is_sheet c__law_is_sheet k__law_is_sheet
  have b__law_is_sheet := F__law_is_sheet.binds (ps := ["net_so", "own"]) fun _ _ _ _ _ _ us hl => match us, hl with | [_, _], _ => rfl
  have F__law_is_letter := fun_mk (st := s__law_is_letter) l__law_is_letter c__law_is_letter k__law_is_letter
  have b__law_is_letter := F__law_is_letter.binds (ps := ["net_so", "own"]) fun _ _ _ _ _ _ us hl => match us, hl with | [_, _], _ => rfl
  have F__law_fair_sheet := fun_mk (st := s__law_fair_sheet) l__law_fair_sheet c__law_fair_sheet k__law_fair_sheet
  have b__law_fair_sheet := F__law_fair_sheet.binds (ps := ["urn"]) fun _ _ _ _ _ _ us hl => match us, hl with | [_], _ => rfl
  have F__law_fair := fun_mk (st := s__law_fair) l__law_fair c__law_fair k__law_fair
  have b__law_fair := F__law_fair.binds (ps := ["urn"]) fun _ _ _ _ _ _ us hl => match us, hl with | [_], _ => rfl
  have F__law_bent := fun_mk (st := s__law_bent) l__law_bent c__law_bent k__law_bent
  have b__law_bent := F__law_bent.binds (ps := ["urn", "matter"]) fun _ _ _ _ _ _ us hl => match us, hl with | [_, _], _ => rfl
  have F_is_sheet := fun_mk (st := s_is_sheet) l_is_sheet c_is_sheet k_is_sheet
  have b_is_sheet := F_is_sheet.binds (ps := ["net", "thing"]) fun _ _ _ _ _ _ us hl => match us, hl with | [_, _], _ => rfl
  have F_is_letter := fun_mk (st := s_is_letter) l_is_letter c_is_letter k_is_letter
  have b_is_letter := F_is_letter.binds (ps := ["net", "thing"]) fun _ _ _ _ _ _ us hl => match us, hl with | [_, _], _ => rfl
  have F__law_by_hand_right := fun_mk (st := s__law_by_hand_right) l__law_by_hand_right c__law_by_hand_right k__law_by_hand_right
  have b__law_by_hand_right := F__law_by_hand_right.binds (ps := []) fun _ _ _ _ _ _ us hl => match us, hl with | [], _ => rfl
  have F_law := fun_mk (st := s_law) l_law c_law k_law
  have b_law := F_law.binds (ps := ["script"]) fun _ _ _ _ _ _ us hl => match us, hl with | [_], _ => rfl
  refine ⟨PySem.W.fnOf "law" "law" (defArgs s_law) (defBody s_law) (defScope s_law) .none kV_law dc_law pm_law an_law cd_law ct_law, fun s v => .of_eq rfl, fun base _ _ => ?_⟩
  have FI_NoPlace := fun_mk (st := s_ini_NoPlace) lI_NoPlace cI_NoPlace kI_NoPlace
  have bI_NoPlace := FI_NoPlace.binds (ps := ["self", "place"]) fun _ _ _ _ _ _ us hl => match us, hl with | [_, _], _ => rfl
  have kb_channel_of_0 : KB K (PySem.W.fnOf "channel_of" "channel_of" (defArgs s_channel_of) (defBody s_channel_of) (defScope s_channel_of) .none kV_channel_of dc_channel_of pm_channel_of an_channel_of cd_channel_of ct_channel_of) ["letter"] ["letter"] [0] := ⟨fun s ws hl => match ws, hl with | [_], _ => .of_eq rfl⟩
  have kb_is_letter_10 : KB K (PySem.W.fnOf "is_letter" "is_letter" (defArgs s_is_letter) (defBody s_is_letter) (defScope s_is_letter) .none kV_is_letter dc_is_letter pm_is_letter an_is_letter cd_is_letter ct_is_letter) ["net", "thing"] ["thing", "net"] [1, 0] := ⟨fun s ws hl => match ws, hl with | [_, _], _ => .of_eq rfl⟩
  exact law_end (all_law { z_abs := PySem.W.mg_none_of X G z_abs, z_all := PySem.W.mg_none_of X G z_all, z_bool := PySem.W.mg_none_of X G z_bool, z_enumerate := PySem.W.mg_none_of X G z_enumerate, z_int := PySem.W.mg_none_of X G z_int, z_isinstance := PySem.W.mg_none_of X G z_isinstance, z_len := PySem.W.mg_none_of X G z_len, z_list := PySem.W.mg_none_of X G z_list, z_min := PySem.W.mg_none_of X G z_min, z_range := PySem.W.mg_none_of X G z_range, z_set := PySem.W.mg_none_of X G z_set, z_str := PySem.W.mg_none_of X G z_str, z_sum := PySem.W.mg_none_of X G z_sum, z_tuple := PySem.W.mg_none_of X G z_tuple, z_zip := PySem.W.mg_none_of X G z_zip, ta__OF_NUMBERS := ti__OF_NUMBERS, tg__OF_NUMBERS := PySem.W.mg_of X G ag__OF_NUMBERS, tc__OF_NUMBERS := tupM_strs [PySem.Str.ofString "turn", PySem.Str.ofString "secret"] al__OF_NUMBERS rfl (.cons ⟨_, rfl⟩ (.cons ⟨_, rfl⟩ .nil)) (by decide), ta__OF_SHEETS := ti__OF_SHEETS, tg__OF_SHEETS := PySem.W.mg_of X G ag__OF_SHEETS, tc__OF_SHEETS := tupM_strs [PySem.Str.ofString "offer", PySem.Str.ofString "agree"] al__OF_SHEETS rfl (.cons ⟨_, rfl⟩ (.cons ⟨_, rfl⟩ .nil)) (by decide), z_LookupError := PySem.W.mg_none_of X G z_LookupError, vV_LookupError := vV_LookupError, c_NoPlace := cc_NoPlace, i_NoPlace := ii_NoPlace, fi_NoPlace := _, gc_NoPlace := PySem.W.mg_of X G aC_NoPlace, x_NoPlace := ⟨xi_NoPlace, xo_NoPlace, sa_NoPlace, hd_NoPlace, exC_NoPlace, tyC_NoPlace, kC_NoPlace⟩, no_NoPlace := no_NoPlace, iC_NoPlace := iC_NoPlace, tI_NoPlace := tI_NoPlace, FI_NoPlace := FI_NoPlace, bI_NoPlace := bI_NoPlace, xf_NoPlace := ⟨ga_NoPlace, gg_NoPlace, exC_NoPlace, hd_NoPlace⟩, ex_NoPlace := PySem.W.exm_ref exC_NoPlace hd_NoPlace tyC_NoPlace sC_NoPlace, kb_channel_of_0 := kb_channel_of_0, kb_is_letter_10 := kb_is_letter_10, a_is_number := f_is_number, fd_is_number := _, F_is_number := F_is_number, g_is_number := PySem.W.mg_of X G a_is_number, b_is_number := b_is_number, a_is_from := f_is_from, fd_is_from := _, F_is_from := F_is_from, g_is_from := PySem.W.mg_of X G a_is_from, b_is_from := b_is_from, a_is_below := f_is_below, fd_is_below := _, F_is_below := F_is_below, g_is_below := PySem.W.mg_of X G a_is_below, b_is_below := b_is_below, a_is_tuple_of := f_is_tuple_of, fd_is_tuple_of := _, F_is_tuple_of := F_is_tuple_of, g_is_tuple_of := PySem.W.mg_of X G a_is_tuple_of, b_is_tuple_of := b_is_tuple_of, a_are_from := f_are_from, fd_are_from := _, F_are_from := F_are_from, g_are_from := PySem.W.mg_of X G a_are_from, b_are_from := b_are_from, a_are_unlike := f_are_unlike, fd_are_unlike := _, F_are_unlike := F_are_unlike, g_are_unlike := PySem.W.mg_of X G a_are_unlike, b_are_unlike := b_are_unlike, a_at_place := f_at_place, fd_at_place := _, F_at_place := F_at_place, g_at_place := PySem.W.mg_of X G a_at_place, b_at_place := b_at_place, a_is_image := f_is_image, fd_is_image := _, F_is_image := F_is_image, g_is_image := PySem.W.mg_of X G a_is_image, b_is_image := b_is_image, a_is_lock := f_is_lock, fd_is_lock := _, F_is_lock := F_is_lock, g_is_lock := PySem.W.mg_of X G a_is_lock, b_is_lock := b_is_lock, a__are_locks := f__are_locks, fd__are_locks := _, F__are_locks := F__are_locks, g__are_locks := PySem.W.mg_of X G a__are_locks, b__are_locks := b__are_locks, a_first_sheet := f_first_sheet, fd_first_sheet := _, F_first_sheet := F_first_sheet, g_first_sheet := PySem.W.mg_of X G a_first_sheet, b_first_sheet := b_first_sheet, a_total := f_total, fd_total := _, F_total := F_total, g_total := PySem.W.mg_of X G a_total, b_total := b_total, a_channel_of := f_channel_of, fd_channel_of := _, F_channel_of := F_channel_of, g_channel_of := PySem.W.mg_of X G a_channel_of, b_channel_of := b_channel_of, a__law_box := f__law_box, fd__law_box := _, F__law_box := F__law_box, g__law_box := PySem.W.mg_of X G a__law_box, b__law_box := b__law_box, a__law_take := f__law_take, fd__law_take := _, F__law_take := F__law_take, g__law_take := PySem.W.mg_of X G a__law_take, b__law_take := b__law_take, a__law_cells := f__law_cells, fd__law_cells := _, F__law_cells := F__law_cells, g__law_cells := PySem.W.mg_of X G a__law_cells, b__law_cells := b__law_cells, a__law_of := f__law_of, fd__law_of := _, F__law_of := F__law_of, g__law_of := PySem.W.mg_of X G a__law_of, b__law_of := b__law_of, a__law_lists := f__law_lists, fd__law_lists := _, F__law_lists := F__law_lists, g__law_lists := PySem.W.mg_of X G a__law_lists, b__law_lists := b__law_lists, a__law_same := f__law_same, fd__law_same := _, F__law_same := F__law_same, g__law_same := PySem.W.mg_of X G a__law_same, b__law_same := b__law_same, a__law_pick := f__law_pick, fd__law_pick := _, F__law_pick := F__law_pick, g__law_pick := PySem.W.mg_of X G a__law_pick, b__law_pick := b__law_pick, a__law_net := f__law_net, fd__law_net := _, F__law_net := F__law_net, g__law_net := PySem.W.mg_of X G a__law_net, b__law_net := b__law_net, a__law_lent := f__law_lent, fd__law_lent := _, F__law_lent := F__law_lent, g__law_lent := PySem.W.mg_of X G a__law_lent, b__law_lent := b__law_lent, a__law_locks := f__law_locks, fd__law_locks := _, F__law_locks := F__law_locks, g__law_locks := PySem.W.mg_of X G a__law_locks, b__law_locks := b__law_locks, a__law_is_count := f__law_is_count, fd__law_is_count := _, F__law_is_count := F__law_is_count, g__law_is_count := PySem.W.mg_of X G a__law_is_count, b__law_is_count := b__law_is_count, a__law_is_image := f__law_is_image, fd__law_is_image := _, F__law_is_image := F__law_is_image, g__law_is_image := PySem.W.mg_of X G a__law_is_image, b__law_is_image := b__law_is_image, a__law_is_lock := f__law_is_lock, fd__law_is_lock := _, F__law_is_lock := F__law_is_lock, g__law_is_lock := PySem.W.mg_of X G a__law_is_lock, b__law_is_lock := b__law_is_lock, a__law_is_sheet := f__law_is_sheet, fd__law_is_sheet := _, F__law_is_sheet := F__law_is_sheet, g__law_is_sheet := PySem.W.mg_of X G a__law_is_sheet, b__law_is_sheet := b__law_is_sheet, a__law_is_letter := f__law_is_letter, fd__law_is_letter := _, F__law_is_letter := F__law_is_letter, g__law_is_letter := PySem.W.mg_of X G a__law_is_letter, b__law_is_letter := b__law_is_letter, a__law_fair_sheet := f__law_fair_sheet, fd__law_fair_sheet := _, F__law_fair_sheet := F__law_fair_sheet, g__law_fair_sheet := PySem.W.mg_of X G a__law_fair_sheet, b__law_fair_sheet := b__law_fair_sheet, a__law_fair := f__law_fair, fd__law_fair := _, F__law_fair := F__law_fair, g__law_fair := PySem.W.mg_of X G a__law_fair, b__law_fair := b__law_fair, a__law_bent := f__law_bent, fd__law_bent := _, F__law_bent := F__law_bent, g__law_bent := PySem.W.mg_of X G a__law_bent, b__law_bent := b__law_bent, a_is_sheet := f_is_sheet, fd_is_sheet := _, F_is_sheet := F_is_sheet, g_is_sheet := PySem.W.mg_of X G a_is_sheet, b_is_sheet := b_is_sheet, a_is_letter := f_is_letter, fd_is_letter := _, F_is_letter := F_is_letter, g_is_letter := PySem.W.mg_of X G a_is_letter, b_is_letter := b_is_letter, a__law_by_hand_right := f__law_by_hand_right, fd__law_by_hand_right := _, F__law_by_hand_right := F__law_by_hand_right, g__law_by_hand_right := PySem.W.mg_of X G a__law_by_hand_right, b__law_by_hand_right := b__law_by_hand_right, a_law := fa, fd_law := _, F_law := F_law, g_law := PySem.W.mg_of X G a_law, b_law := b_law }) math
end K11
open PySem PySem.W PyProof.Rows
set_option maxRecDepth 100000 in
set_option maxHeartbeats 0 in
theorem PySem.Challenge.cw_suredue_k11_letters_judged_holds : PySem.Challenge.rw_suredue_k11_letters_judged.Holds := by
  w_on; o_law; k_head; (case hw => w_witness2)
  k_fill
  refine Ml.walk_law (l := PySem.Challenge.rw_suredue_k11_letters_judged) (k := 23) rfl rfl ⟨rfl, by decide, by decide⟩ (fun w h Y => PySem.W.kIn_of Y) ?F
  case F =>
    intro w mg fa h KX G hmg
    refine' K11.all_mk K11.law_good KX G hmg ?a_is_number ?l_is_number ?c_is_number ?k_is_number ?a_is_from ?l_is_from ?c_is_from ?k_is_from ?a_is_below ?l_is_below ?c_is_below ?k_is_below ?a_is_tuple_of ?l_is_tuple_of ?c_is_tuple_of ?k_is_tuple_of ?a_are_from ?l_are_from ?c_are_from ?k_are_from ?a_are_unlike ?l_are_unlike ?c_are_unlike ?k_are_unlike ?a_at_place ?l_at_place ?c_at_place ?k_at_place ?a_is_image ?l_is_image ?c_is_image ?k_is_image ?a_is_lock ?l_is_lock ?c_is_lock ?k_is_lock ?a__are_locks ?l__are_locks ?c__are_locks ?k__are_locks ?a_first_sheet ?l_first_sheet ?c_first_sheet ?k_first_sheet ?a_total ?l_total ?c_total ?k_total ?a_channel_of ?l_channel_of ?c_channel_of ?k_channel_of ?a__law_box ?l__law_box ?c__law_box ?k__law_box ?a__law_take ?l__law_take ?c__law_take ?k__law_take ?a__law_cells ?l__law_cells ?c__law_cells ?k__law_cells ?a__law_of ?l__law_of ?c__law_of ?k__law_of ?a__law_lists ?l__law_lists ?c__law_lists ?k__law_lists ?a__law_same ?l__law_same ?c__law_same ?k__law_same ?a__law_pick ?l__law_pick ?c__law_pick ?k__law_pick ?a__law_net ?l__law_net ?c__law_net ?k__law_net ?a__law_lent ?l__law_lent ?c__law_lent ?k__law_lent ?a__law_locks ?l__law_locks ?c__law_locks ?k__law_locks ?a__law_is_count ?l__law_is_count ?c__law_is_count ?k__law_is_count ?a__law_is_image ?l__law_is_image ?c__law_is_image ?k__law_is_image ?a__law_is_lock ?l__law_is_lock ?c__law_is_lock ?k__law_is_lock ?a__law_is_sheet ?l__law_is_sheet ?c__law_is_sheet ?k__law_is_sheet ?a__law_is_letter ?l__law_is_letter ?c__law_is_letter ?k__law_is_letter ?a__law_fair_sheet ?l__law_fair_sheet ?c__law_fair_sheet ?k__law_fair_sheet ?a__law_fair ?l__law_fair ?c__law_fair ?k__law_fair ?a__law_bent ?l__law_bent ?c__law_bent ?k__law_bent ?a_is_sheet ?l_is_sheet ?c_is_sheet ?k_is_sheet ?a_is_letter ?l_is_letter ?c_is_letter ?k_is_letter ?a__law_by_hand_right ?l__law_by_hand_right ?c__law_by_hand_right ?k__law_by_hand_right ?a_law ?l_law ?c_law ?k_law ?aC_NoPlace ?iC_NoPlace ?lI_NoPlace ?cI_NoPlace ?kI_NoPlace ?tI_NoPlace ?xi_NoPlace ?xo_NoPlace ?sa_NoPlace ?hd_NoPlace ?exC_NoPlace ?tyC_NoPlace ?kC_NoPlace ?no_NoPlace ?ga_NoPlace ?gg_NoPlace ?sC_NoPlace ?z_LookupError ?vV_LookupError ?ag__OF_NUMBERS ?al__OF_NUMBERS ?ag__OF_SHEETS ?al__OF_SHEETS ?z_abs ?z_all ?z_bool ?z_enumerate ?z_int ?z_isinstance ?z_len ?z_list ?z_min ?z_range ?z_set ?z_str ?z_sum ?z_tuple ?z_zip
    case a_is_number => k_is
    case l_is_number => k_is
    case c_is_number => k_is
    case k_is_number => k_is
    case a_is_from => k_is
    case l_is_from => k_is
    case c_is_from => k_is
    case k_is_from => k_is
    case a_is_below => k_is
    case l_is_below => k_is
    case c_is_below => k_is
    case k_is_below => k_is
    case a_is_tuple_of => k_is
    case l_is_tuple_of => k_is
    case c_is_tuple_of => k_is
    case k_is_tuple_of => k_is
    case a_are_from => k_is
    case l_are_from => k_is
    case c_are_from => k_is
    case k_are_from => k_is
    case a_are_unlike => k_is
    case l_are_unlike => k_is
    case c_are_unlike => k_is
    case k_are_unlike => k_is
    case a_at_place => k_is
    case l_at_place => k_is
    case c_at_place => k_is
    case k_at_place => k_is
    case a_is_image => k_is
    case l_is_image => k_is
    case c_is_image => k_is
    case k_is_image => k_is
    case a_is_lock => k_is
    case l_is_lock => k_is
    case c_is_lock => k_is
    case k_is_lock => k_is
    case a__are_locks => k_is
    case l__are_locks => k_is
    case c__are_locks => k_is
    case k__are_locks => k_is
    case a_first_sheet => k_is
    case l_first_sheet => k_is
    case c_first_sheet => k_is
    case k_first_sheet => k_is
    case a_total => k_is
    case l_total => k_is
    case c_total => k_is
    case k_total => k_is
    case a_channel_of => k_is
    case l_channel_of => k_is
    case c_channel_of => k_is
    case k_channel_of => k_is
    case a__law_box => k_is
    case l__law_box => k_is
    case c__law_box => k_is
    case k__law_box => k_is
    case a__law_take => k_is
    case l__law_take => k_is
    case c__law_take => k_is
    case k__law_take => k_is
    case a__law_cells => k_is
    case l__law_cells => k_is
    case c__law_cells => k_is
    case k__law_cells => k_is
    case a__law_of => k_is
    case l__law_of => k_is
    case c__law_of => k_is
    case k__law_of => k_is
    case a__law_lists => k_is
    case l__law_lists => k_is
    case c__law_lists => k_is
    case k__law_lists => k_is
    case a__law_same => k_is
    case l__law_same => k_is
    case c__law_same => k_is
    case k__law_same => k_is
    case a__law_pick => k_is
    case l__law_pick => k_is
    case c__law_pick => k_is
    case k__law_pick => k_is
    case a__law_net => k_is
    case l__law_net => k_is
    case c__law_net => k_is
    case k__law_net => k_is
    case a__law_lent => k_is
    case l__law_lent => k_is
    case c__law_lent => k_is
    case k__law_lent => k_is
    case a__law_locks => k_is
    case l__law_locks => k_is
    case c__law_locks => k_is
    case k__law_locks => k_is
    case a__law_is_count => k_is
    case l__law_is_count => k_is
    case c__law_is_count => k_is
    case k__law_is_count => k_is
    case a__law_is_image => k_is
    case l__law_is_image => k_is
    case c__law_is_image => k_is
    case k__law_is_image => k_is
    case a__law_is_lock => k_is
    case l__law_is_lock => k_is
    case c__law_is_lock => k_is
    case k__law_is_lock => k_is
    case a__law_is_sheet => k_is
    case l__law_is_sheet => k_is
    case c__law_is_sheet => k_is
    case k__law_is_sheet => k_is
    case a__law_is_letter => k_is
    case l__law_is_letter => k_is
    case c__law_is_letter => k_is
    case k__law_is_letter => k_is
    case a__law_fair_sheet => k_is
    case l__law_fair_sheet => k_is
    case c__law_fair_sheet => k_is
    case k__law_fair_sheet => k_is
    case a__law_fair => k_is
    case l__law_fair => k_is
    case c__law_fair => k_is
    case k__law_fair => k_is
    case a__law_bent => k_is
    case l__law_bent => k_is
    case c__law_bent => k_is
    case k__law_bent => k_is
    case a_is_sheet => k_is
    case l_is_sheet => k_is
    case c_is_sheet => k_is
    case k_is_sheet => k_is
    case a_is_letter => k_is
    case l_is_letter => k_is
    case c_is_letter => k_is
    case k_is_letter => k_is
    case a__law_by_hand_right => k_is
    case l__law_by_hand_right => k_is
    case c__law_by_hand_right => k_is
    case k__law_by_hand_right => k_is
    case a_law => k_is
    case l_law => k_is
    case c_law => k_is
    case k_law => k_is
    case aC_NoPlace => k_is
    case iC_NoPlace => k_is
    case lI_NoPlace => k_is
    case cI_NoPlace => k_is
    case kI_NoPlace => k_is
    case tI_NoPlace => k_is
    case xi_NoPlace => kx_is
    case xo_NoPlace => kx_is
    case sa_NoPlace => k_is
    case hd_NoPlace => k_is
    case exC_NoPlace => k_is
    case tyC_NoPlace => k_is
    case kC_NoPlace => k_is
    case no_NoPlace => k_is
    case ga_NoPlace => k_is
    case gg_NoPlace => k_is
    case sC_NoPlace => k_is
    case z_LookupError => k_is
    case vV_LookupError => k_is
    case ag__OF_NUMBERS => k_is
    case al__OF_NUMBERS => k_is
    case ag__OF_SHEETS => k_is
    case al__OF_SHEETS => k_is
    case z_abs => k_is
    case z_all => k_is
    case z_bool => k_is
    case z_enumerate => k_is
    case z_int => k_is
    case z_isinstance => k_is
    case z_len => k_is
    case z_list => k_is
    case z_min => k_is
    case z_range => k_is
    case z_set => k_is
    case z_str => k_is
    case z_sum => k_is
    case z_tuple => k_is
    case z_zip => k_is
