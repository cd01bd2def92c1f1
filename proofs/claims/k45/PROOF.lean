import PyProof.Rows.All
import Wide.All
import OpenK.AllK
import Wide.FinOn
import HandS.ForMost
import HandS.ForExc
import HandS.ExcInit
import HandS.ExcField
import HandS.ExcIs
import HandS.IsInst
import HandS.Gcd
import HandS.Deep
import HandS.Flow
import HandS.Wide
import HandS.TupAny
import HandS.TupMul
import HandS.Defaults
import HandS.ExcCtx
import HandS.HotCalls
import HandS.CallSlots
import HandS.Star
import HandS.Style
import KE.KTupSum
import KE.KMathGC
import HandS.HeadHook1
import HandS.HeadHook2
import HandS.Words
import HandS.Zip
import HandS.Sort
import HandS.Conv
import HandS.CallLocal
import KE.GoesEnum
import KE.KStateDown
import Lean
import HandS.Head0
import HandS.Head1
import HandS.Head2
import HandS.HeadEnd
import HandS.HeadWalk
import KE.HD3
import PySem.Challenge.RW_stayorgo_k45_all_dice_make_the_course
set_option Elab.async false
set_option Elab.async false
set_option linter.all false
set_option maxRecDepth 100000
set_option maxHeartbeats 4000000
namespace PD
open PySem PySem.Spec PyProof.Rows L2

/-! ### plain values -/
inductive D where
  | non | bl (b : Bool) | int (i : Int) | str (s : Str)
  | tup (xs : List D) | lst (xs : List D) | ref (n : Nat) | scr (ns : List Int)
  | err (c : Str) (ns : List Str) (xs : List D)
  | rng (lo hi : Int)
  | cau (a d : Nat) (c : Str) (ns : List Str) (xs : List D)
  | fn (x : Str)

abbrev Store := List (List D)
abbrev EnvD := List (Option D)

/-- a tuple, a list that no list of mu is: tracked, or of the written part -/
def SqTm (K : PySem.W.Frag) (H : Hp) (mu : List Addr) (a : Addr) (xs : List V) : Prop :=
  (Rd H a (.tup xs) ∧ a ∉ mu) ∨
    ∃ (o : Obj) (its : Array Value) (n : Nat), K.lookup a = some o ∧ o.cls = .type "tuple" ∧ o.data = .seq its n ∧ its.size ≤ sizeLine ∧ Vals xs its.toList
def SqLm (K : PySem.W.Frag) (H : Hp) (mu : List Addr) (a : Addr) (xs : List V) : Prop :=
  (Rd H a (.lst xs) ∧ a ∉ mu) ∨
    ∃ (o : Obj) (its : Array Value) (n : Nat), K.lookup a = some o ∧ o.cls = .type "list" ∧ o.dict = none ∧ o.data = .seq its n ∧ its.size ≤ sizeLine ∧ Vals xs its.toList
theorem SqTm.sq {K : PySem.W.Frag} {H : Hp} {mu : List Addr} {a : Addr} {xs : List V} (h : SqTm K H mu a xs) : SqT K H a xs := h.elim (fun z => .inl z.1) .inr
theorem SqLm.sq {K : PySem.W.Frag} {H : Hp} {mu : List Addr} {a : Addr} {xs : List V} (h : SqLm K H mu a xs) : SqL K H a xs := h.elim (fun z => .inl z.1) .inr
section
variable (K : PySem.W.Frag) (mg : Str → Option Value)
mutual
/-- the value v stands for d; the addresses of mu are those of lists that may still change -/
inductive Rep (H : Hp) (mu : List Addr) : V → D → Prop
  | non : Rep H mu .non .non
  | bl (b : Bool) : Rep H mu (.bl b) (.bl b)
  | int (i : Int) : Rep H mu (.int i) (.int i)
  | str (s : Str) : Rep H mu (.str s) (.str s)
  | tup {a : Addr} {vs : List V} {ds : List D} (h : SqTm K H mu a vs) (r : Reps H mu vs ds) : Rep H mu (.ref a) (.tup ds)
  | lst {a : Addr} {vs : List V} {ds : List D} (h : H a = some (.lst vs)) (n : a ∉ mu) (r : Reps H mu vs ds) : Rep H mu (.ref a) (.lst ds)
  | ref {a : Addr} {n : Nat} (h : mu[n]? = some a) : Rep H mu (.ref a) (.ref n)
  | scr {a : Addr} {ns : List Int} (h : SqLm K H mu a (ns.map V.int)) : Rep H mu (.ref a) (.scr ns)
  | rng {a : Addr} {lo hi : Int} (h : H a = some (.rng lo hi)) (n : a ∉ mu) : Rep H mu (.ref a) (.rng lo hi)
  | err {e C d : Addr} {c : Str} {ns : List Str} {vs : List V} {xs : List D} (hm : mg c = some (.ref C)) (he : H e = some (exo e C (some d))) (hd : H d = some (exd d (ns.zip vs))) (n1 : e ∉ mu) (n2 : d ∉ mu)
      (l : ns.length = vs.length) (r : Reps H mu vs xs) : Rep H mu (.ref e) (.err c ns xs)
  | cau {e C d : Addr} {c : Str} {ns : List Str} {vs : List V} {xs : List D} (hm : mg c = some (.ref C)) (hd : H d = some (.xd (ns.zip vs))) (n2 : d ∉ mu) (l : ns.length = vs.length) (r : Reps H mu vs xs) : Rep H mu (.ref e) (.cau e d c ns xs)
  | fn {C : Addr} {x : Str} (hm : mg x = some (.ref C)) : Rep H mu (.ref C) (.fn x)
inductive Reps (H : Hp) (mu : List Addr) : List V → List D → Prop
  | nil : Reps H mu [] []
  | cons {v : V} {vs : List V} {d : D} {ds : List D} (h : Rep H mu v d) (t : Reps H mu vs ds) : Reps H mu (v :: vs) (d :: ds)
end
end

/-- from H with mu to H' with mu': what was tracked and may not change stands -/
structure Ext (H : Hp) (mu : List Addr) (H' : Hp) (mu' : List Addr) : Prop where
  pre : mu <+: mu'
  keep : ∀ a o, H a = some o → a ∉ mu → H' a = some o
  new : ∀ a, a ∈ mu' → a ∉ mu → H a = none
theorem Ext.refl (H : Hp) (mu : List Addr) : Ext H mu H mu := ⟨List.prefix_refl _, fun _ _ h _ => h, fun _ h n => absurd h n⟩
theorem Ext.notin {H H' : Hp} {mu mu' : List Addr} (e : Ext H mu H' mu') {a : Addr} {o : HO} (h : H a = some o) (n : a ∉ mu) : a ∉ mu' := fun m => by
  rw [e.new a m n] at h; cases h
theorem Ext.trans {H H1 H2 : Hp} {mu m1 m2 : List Addr} (a : Ext H mu H1 m1) (b : Ext H1 m1 H2 m2) : Ext H mu H2 m2 where
  pre := a.pre.trans b.pre
  keep := fun c o h n => b.keep c o (a.keep c o h n) (a.notin h n)
  new := fun c h n => by
    by_cases q : c ∈ m1
    · exact a.new c q n
    · have z := b.new c h q
      cases e : H c with
      | none => rfl
      | some o => rw [a.keep c o e n] at z; cases z
section
variable {K : PySem.W.Frag} {mg : Str → Option Value} {H H' : Hp} {mu mu' : List Addr}
theorem Ext.rd (e : Ext H mu H' mu') {a : Addr} {u : HO} (h : Rd H a u ∧ a ∉ mu) : Rd H' a u ∧ a ∉ mu' := by
  obtain ⟨h | ⟨o, h⟩, n⟩ := h
  · exact ⟨.inl (e.keep _ _ h n), e.notin h n⟩
  · exact ⟨.inr ⟨o, e.keep _ _ h n⟩, e.notin h n⟩
theorem Ext.sqT (e : Ext H mu H' mu') {a : Addr} {vs : List V} (h : SqTm K H mu a vs) : SqTm K H' mu' a vs := h.elim (fun z => .inl (e.rd z)) .inr
theorem Ext.sqL (e : Ext H mu H' mu') {a : Addr} {vs : List V} (h : SqLm K H mu a vs) : SqLm K H' mu' a vs := h.elim (fun z => .inl (e.rd z)) .inr
theorem prefix_get {α : Type} {l l' : List α} (p : l <+: l') {n : Nat} {a : α} (h : l[n]? = some a) : l'[n]? = some a := by
  obtain ⟨t, rfl⟩ := p
  have hn : n < l.length := (List.getElem?_eq_some_iff.mp h).1
  rw [List.getElem?_append_left hn]
  exact h

mutual
theorem Rep.mono (e : Ext H mu H' mu') : ∀ {v : V} {d : D}, Rep K mg H mu v d → Rep K mg H' mu' v d
  | _, _, .non => .non
  | _, _, .bl b => .bl b
  | _, _, .int i => .int i
  | _, _, .str s => .str s
  | _, _, .tup h r => .tup (e.sqT h) (Reps.mono e r)
  | _, _, .lst h n r => .lst (e.keep _ _ h n) (e.notin h n) (Reps.mono e r)
  | _, _, .ref h => .ref (prefix_get e.pre h)
  | _, _, .scr h => .scr (e.sqL h)
  | _, _, .rng h n => .rng (e.keep _ _ h n) (e.notin h n)
  | _, _, .err hm he hd n1 n2 l r => .err hm (e.keep _ _ he n1) (e.keep _ _ hd n2) (e.notin he n1) (e.notin hd n2) l (Reps.mono e r)
  | _, _, .cau hm hd n2 l r => .cau hm (e.keep _ _ hd n2) (e.notin hd n2) l (Reps.mono e r)
  | _, _, .fn hm => .fn hm
theorem Reps.mono (e : Ext H mu H' mu') : ∀ {vs : List V} {ds : List D}, Reps K mg H mu vs ds → Reps K mg H' mu' vs ds
  | _, _, .nil => .nil
  | _, _, .cons h t => .cons (Rep.mono e h) (Reps.mono e t)
end
theorem Reps.length : ∀ {vs : List V} {ds : List D}, Reps K mg H mu vs ds → vs.length = ds.length
  | _, _, .nil => rfl
  | _, _, .cons _ t => congrArg Nat.succ (Reps.length t)
theorem Reps.get : ∀ {vs : List V} {ds : List D} {i : Nat} {d : D}, Reps K mg H mu vs ds → ds[i]? = some d → ∃ v, vs[i]? = some v ∧ Rep K mg H mu v d
  | _, _, _, _, .nil, e => by simp at e
  | _, _, 0, _, .cons h _, e => by simp at e; subst e; exact ⟨_, rfl, h⟩
  | _, _, i + 1, d, .cons _ t, e => by
    obtain ⟨v, h1, h2⟩ := Reps.get (i := i) (d := d) t (by simpa using e)
    exact ⟨v, by simpa using h1, h2⟩
theorem Reps.get' : ∀ {vs : List V} {ds : List D} {i : Nat} {v : V}, Reps K mg H mu vs ds → vs[i]? = some v → ∃ d, ds[i]? = some d ∧ Rep K mg H mu v d
  | _, _, _, _, .nil, e => by simp at e
  | _, _, 0, _, .cons h _, e => by simp at e; subst e; exact ⟨_, rfl, h⟩
  | _, _, i + 1, v, .cons _ t, e => by
    obtain ⟨d, h1, h2⟩ := Reps.get' (i := i) (v := v) t (by simpa using e)
    exact ⟨d, by simpa using h1, h2⟩
theorem Reps.append : ∀ {vs ws : List V} {ds es : List D}, Reps K mg H mu vs ds → Reps K mg H mu ws es → Reps K mg H mu (vs ++ ws) (ds ++ es)
  | _, _, _, _, .nil, s => s
  | _, _, _, _, .cons r t, s => .cons r (Reps.append t s)
theorem Reps.take : ∀ {vs : List V} {ds : List D} (n : Nat), Reps K mg H mu vs ds → Reps K mg H mu (vs.take n) (ds.take n)
  | _, _, 0, _ => .nil
  | _, _, _ + 1, .nil => .nil
  | _, _, n + 1, .cons r t => .cons r (Reps.take n t)
theorem Reps.drop : ∀ {vs : List V} {ds : List D} (n : Nat), Reps K mg H mu vs ds → Reps K mg H mu (vs.drop n) (ds.drop n)
  | _, _, 0, r => r
  | _, _, _ + 1, .nil => .nil
  | _, _, n + 1, .cons _ t => Reps.drop n t
theorem Reps.set {v : V} {d : D} (r : Rep K mg H mu v d) : ∀ {vs : List V} {ds : List D} (i : Nat), Reps K mg H mu vs ds → Reps K mg H mu (vs.set i v) (ds.set i d)
  | _, _, _, .nil => .nil
  | _, _, 0, .cons _ t => .cons r t
  | _, _, i + 1, .cons q t => .cons q (Reps.set r i t)
theorem Reps.ints : ∀ (ns : List Int), Reps K mg H mu (ns.map V.int) (ns.map D.int)
  | [] => .nil
  | n :: ns => .cons (.int n) (Reps.ints ns)
theorem Reps.single {v : V} {d : D} (r : Rep K mg H mu v d) : Reps K mg H mu [v] [d] := .cons r .nil
end

section
variable (K : PySem.W.Frag) (mg : Str → Option Value)
/-- the lists that may still change: at mu, in the store's order -/
structure StOk (H : Hp) (mu : List Addr) (S : Store) : Prop where
  nd : mu.Nodup
  len : mu.length = S.length
  at_ : ∀ (n : Nat) (a : Addr) (ds : List D), mu[n]? = some a → S[n]? = some ds → ∃ vs, H a = some (.lst vs) ∧ Reps K mg H mu vs ds
/-- the slots -/
structure EnvOk (H : Hp) (mu : List Addr) (σ : L2.St) (ρ : EnvD) : Prop where
  len : σ.length = ρ.length
  at_ : ∀ (i : Nat) (d : D), ρ[i]? = some (some d) → ∃ v, σ[i]? = some (some v) ∧ Rep K mg H mu v d
end
section
variable {K : PySem.W.Frag} {mg : Str → Option Value} {H H' : Hp} {mu mu' : List Addr} {σ : L2.St} {ρ : EnvD} {S : Store}
theorem EnvOk.mono (e : Ext H mu H' mu') (h : EnvOk K mg H mu σ ρ) : EnvOk K mg H' mu' σ ρ :=
  ⟨h.len, fun i d q => let ⟨v, h1, h2⟩ := h.at_ i d q; ⟨v, h1, h2.mono e⟩⟩
theorem EnvOk.set (h : EnvOk K mg H mu σ ρ) {v : V} {d : D} (r : Rep K mg H mu v d) (i : Nat) : EnvOk K mg H mu (σ.set i (some v)) (ρ.set i (some d)) := by
  refine ⟨by simpa using h.len, fun j e q => ?_⟩
  by_cases hj : i = j
  · subst hj
    by_cases hi : i < ρ.length
    · rw [List.getElem?_set_self hi] at q
      cases q
      exact ⟨v, by rw [List.getElem?_set_self (by rw [h.len]; exact hi)], r⟩
    · rw [List.getElem?_eq_none (by simpa using hi)] at q; cases q
  · rw [List.getElem?_set_ne hj] at q
    obtain ⟨w, h1, h2⟩ := h.at_ j e q
    exact ⟨w, by rw [List.getElem?_set_ne hj]; exact h1, h2⟩
theorem EnvOk.forget (h : EnvOk K mg H mu σ ρ) (i : Nat) (x : Option V) : EnvOk K mg H mu (σ.set i x) (ρ.set i none) := by
  refine ⟨by simpa using h.len, fun j e q => ?_⟩
  by_cases hj : i = j
  · subst hj
    by_cases hi : i < ρ.length
    · rw [List.getElem?_set_self hi] at q; cases q
    · rw [List.getElem?_eq_none (by simpa using hi)] at q; cases q
  · rw [List.getElem?_set_ne hj] at q
    obtain ⟨w, h1, h2⟩ := h.at_ j e q
    exact ⟨w, by rw [List.getElem?_set_ne hj]; exact h1, h2⟩
/-- a new object that is no changing list -/
theorem Ext.fresh {p : Addr} {o : HO} (hp : H p = none) (hm : p ∉ mu) : Ext H mu (L2.upd H p o) mu :=
  ⟨List.prefix_refl _, fun a u h _ => by rw [upd_ne (ne_of_none h hp)]; exact h, fun _ h n => absurd h n⟩
theorem StOk.free (s : StOk K mg H mu S) {p : Addr} (hp : H p = none) : p ∉ mu := fun m => by
  obtain ⟨n, hn⟩ := List.getElem?_of_mem m
  have hl : n < S.length := by rw [← s.len]; exact (List.getElem?_eq_some_iff.mp hn).1
  obtain ⟨vs, h, _⟩ := s.at_ n p _ hn (List.getElem?_eq_getElem hl)
  rw [hp] at h; cases h
theorem StOk.fresh (s : StOk K mg H mu S) {p : Addr} {o : HO} (hp : H p = none) : StOk K mg (L2.upd H p o) mu S :=
  ⟨s.nd, s.len, fun n a ds h1 h2 => by
    obtain ⟨vs, h, r⟩ := s.at_ n a ds h1 h2
    exact ⟨vs, by rw [upd_ne (ne_of_none h hp)]; exact h, r.mono (Ext.fresh hp (s.free hp))⟩⟩
/-- a new list that may change -/
theorem Ext.grow (s : StOk K mg H mu S) {p : Addr} {o : HO} (hp : H p = none) : Ext H mu (upd H p o) (mu ++ [p]) :=
  ⟨List.prefix_append _ _, fun a u h _ => by rw [upd_ne (ne_of_none h hp)]; exact h, fun a h n => by
    rcases List.mem_append.mp h with z | z
    · exact absurd z n
    · rw [List.mem_singleton.mp z]; exact hp⟩
theorem StOk.grow (s : StOk K mg H mu S) {p : Addr} {vs : List V} {ds : List D} (hp : H p = none) (r : Reps K mg H mu vs ds) : StOk K mg (upd H p (.lst vs)) (mu ++ [p]) (S ++ [ds]) := by
  have e := Ext.grow (o := .lst vs) s hp
  refine ⟨?_, by simp [s.len], fun n a es h1 h2 => ?_⟩
  · rw [List.nodup_append]
    exact ⟨s.nd, by simp, fun x hx y hy => by rw [List.mem_singleton.mp hy]; exact fun z => s.free hp (z ▸ hx)⟩
  · by_cases hn : n < mu.length
    · rw [List.getElem?_append_left hn] at h1
      rw [List.getElem?_append_left (by rw [← s.len]; exact hn)] at h2
      obtain ⟨ws, h, q⟩ := s.at_ n a es h1 h2
      exact ⟨ws, e.keep _ _ h |> fun _ => by rw [upd_ne (ne_of_none h hp)]; exact h, q.mono e⟩
    · have hn' : n = mu.length := by
        have := (List.getElem?_eq_some_iff.mp h1).1
        rw [List.length_append] at this
        simp at this
        omega
      subst hn'
      rw [List.getElem?_append_right (Nat.le_refl _)] at h1
      rw [s.len, List.getElem?_append_right (Nat.le_refl _)] at h2
      simp at h1 h2
      subst h1 h2
      exact ⟨vs, upd_same, r.mono e⟩
/-- a changing list is changed -/
theorem Ext.chg {p : Addr} {o : HO} (hp : p ∈ mu) : Ext H mu (L2.upd H p o) mu :=
  ⟨List.prefix_refl _, fun a u h n => by rw [upd_ne (fun z => n (by rw [z]; exact hp))]; exact h, fun _ h n => absurd h n⟩
theorem StOk.chg (s : StOk K mg H mu S) {n : Nat} {p : Addr} {vs : List V} {ds : List D} (hp : mu[n]? = some p) (r : Reps K mg H mu vs ds) : StOk K mg (L2.upd H p (.lst vs)) mu (S.set n ds) := by
  have hm := List.mem_of_getElem? hp
  have e := Ext.chg (H := H) (o := .lst vs) hm
  refine ⟨s.nd, by simp [s.len], fun k a es h1 h2 => ?_⟩
  by_cases hk : n = k
  · subst hk
    rw [hp] at h1
    cases h1
    have hl : n < S.length := by rw [← s.len]; exact (List.getElem?_eq_some_iff.mp hp).1
    rw [List.getElem?_set_self hl] at h2
    cases h2
    exact ⟨vs, upd_same, r.mono e⟩
  · rw [List.getElem?_set_ne hk] at h2
    obtain ⟨ws, h, q⟩ := s.at_ k a es h1 h2
    have hne : a ≠ p := fun z => hk (by
      subst z
      exact ((List.getElem?_inj (List.getElem?_eq_some_iff.mp hp).1 s.nd).mp (hp.trans h1.symm)))
    exact ⟨ws, by rw [upd_ne hne]; exact h, q.mono e⟩
end
end PD
set_option Elab.async false
set_option linter.all false
set_option maxRecDepth 100000
set_option maxHeartbeats 4000000
namespace PD
open PySem PySem.Spec PyProof.Rows L2

/-! ### what an expression gives -/
inductive Res where
  | ok (d : D) (S : Store)
  | exc (c : Str) (ns : List Str) (xs : List D) (S : Store)
abbrev Den := EnvD → Store → Option Res
/-- lists of values -/
inductive Ress where
  | ok (ds : List D) (S : Store)
  | exc (c : Str) (ns : List Str) (xs : List D) (S : Store)
abbrev Dens := EnvD → Store → Option Ress
def bnd (o : Option Res) (k : D → Store → Option Res) : Option Res := match o with
  | some (.ok d S) => k d S
  | some (.exc c ns xs S) => some (.exc c ns xs S)
  | none => none
@[simp] theorem bnd_ok (d : D) (S : Store) (k : D → Store → Option Res) : bnd (some (.ok d S)) k = k d S := rfl
@[simp] theorem bnd_exc (c : Str) (ns : List Str) (xs : List D) (S : Store) (k : D → Store → Option Res) : bnd (some (.exc c ns xs S)) k = some (.exc c ns xs S) := rfl
@[simp] theorem bnd_none (k : D → Store → Option Res) : bnd none k = none := rfl
def bnds (o : Option Res) (k : D → Store → Option Ress) : Option Ress := match o with
  | some (.ok d S) => k d S
  | some (.exc c ns xs S) => some (.exc c ns xs S)
  | none => none
@[simp] theorem bnds_ok (d : D) (S : Store) (k : D → Store → Option Ress) : bnds (some (.ok d S)) k = k d S := rfl
@[simp] theorem bnds_exc (c : Str) (ns : List Str) (xs : List D) (S : Store) (k : D → Store → Option Ress) : bnds (some (.exc c ns xs S)) k = some (.exc c ns xs S) := rfl
@[simp] theorem bnds_none (k : D → Store → Option Ress) : bnds none k = none := rfl
def bndl (o : Option Ress) (k : List D → Store → Option Res) : Option Res := match o with
  | some (.ok d S) => k d S
  | some (.exc c ns xs S) => some (.exc c ns xs S)
  | none => none
@[simp] theorem bndl_ok (d : List D) (S : Store) (k : List D → Store → Option Res) : bndl (some (.ok d S)) k = k d S := rfl
@[simp] theorem bndl_exc (c : Str) (ns : List Str) (xs : List D) (S : Store) (k : List D → Store → Option Res) : bndl (some (.exc c ns xs S)) k = some (.exc c ns xs S) := rfl
@[simp] theorem bndl_none (k : List D → Store → Option Res) : bndl none k = none := rfl
def bndls (o : Option Ress) (k : List D → Store → Option Ress) : Option Ress := match o with
  | some (.ok d S) => k d S
  | some (.exc c ns xs S) => some (.exc c ns xs S)
  | none => none
@[simp] theorem bndls_ok (d : List D) (S : Store) (k : List D → Store → Option Ress) : bndls (some (.ok d S)) k = k d S := rfl
@[simp] theorem bndls_exc (c : Str) (ns : List Str) (xs : List D) (S : Store) (k : List D → Store → Option Ress) : bndls (some (.exc c ns xs S)) k = some (.exc c ns xs S) := rfl
@[simp] theorem bndls_none (k : List D → Store → Option Ress) : bndls none k = none := rfl

section
variable (K : PySem.W.Frag) (mg : Str → Option Value) (W : WX)
/-- behind an exception -/
def PostX (σ : L2.St) (H : Hp) (mu : List Addr) (c : Str) (ns : List Str) (xs : List D) (S' : Store) : Prop :=
  ∀ (C dx : Addr) (vs : List V) (H' : Hp) (mu' : List Addr), Ext H mu H' mu' → StOk K mg H' mu' S' → mg c = some (.ref C) → H' dx = some (.xd (ns.zip vs)) → dx ∉ mu' → ns.length = vs.length → Reps K mg H' mu' vs xs → W (.ref C) (some dx) σ H'
def PostV (H : Hp) (mu : List Addr) (Q : VK) (d : D) (S' : Store) : Prop :=
  ∀ (v : V) (H' : Hp) (mu' : List Addr), Ext H mu H' mu' → StOk K mg H' mu' S' → Rep K mg H' mu' v d → Q v H'
def Post (σ : L2.St) (H : Hp) (mu : List Addr) (Q : VK) : Res → Prop
  | .ok d S' => PostV K mg H mu Q d S'
  | .exc c ns xs S' => PostX K mg W σ H mu c ns xs S'
def Posts (σ : L2.St) (H : Hp) (mu : List Addr) (Q : List V → Hp → Prop) : Ress → Prop
  | .ok ds S' => ∀ (vs : List V) (H' : Hp) (mu' : List Addr), Ext H mu H' mu' → StOk K mg H' mu' S' → Reps K mg H' mu' vs ds → Q vs H'
  | .exc c ns xs S' => PostX K mg W σ H mu c ns xs S'
/-- the reading of a denotation -/
def rd (f : Den) : TE := fun σ H Q => ∃ mu S ρ r, StOk K mg H mu S ∧ EnvOk K mg H mu σ ρ ∧ f ρ S = some r ∧ Post K mg W σ H mu Q r
def rds (f : Dens) : TA := fun σ H Q => ∃ mu S ρ r, StOk K mg H mu S ∧ EnvOk K mg H mu σ ρ ∧ f ρ S = some r ∧ Posts K mg W σ H mu Q r
/-- tests: a denotation's truth -/
def rdt (f : EnvD → Store → Option Res) : TT := fun σ H Q => ∃ mu S ρ r, StOk K mg H mu S ∧ EnvOk K mg H mu σ ρ ∧ f ρ S = some r ∧
  match r with
  | .ok (.bl b) S' => ∀ (H' : Hp) (mu' : List Addr), Ext H mu H' mu' → StOk K mg H' mu' S' → Q b H'
  | .ok _ _ => False
  | .exc c ns xs S' => PostX K mg W σ H mu c ns xs S'
end
section
variable {K : PySem.W.Frag} {mg : Str → Option Value} {W : WX} {H H' : Hp} {mu mu' : List Addr} {σ : L2.St} {ρ : EnvD} {S S' : Store}
theorem PostX.mono (e : Ext H mu H' mu') {c : Str} {ns : List Str} {xs : List D} (p : PostX K mg W σ H mu c ns xs S') : PostX K mg W σ H' mu' c ns xs S' :=
  fun C dx vs H2 m2 e2 => p C dx vs H2 m2 (e.trans e2)
theorem PostV.mono (e : Ext H mu H' mu') {Q : VK} {d : D} (p : PostV K mg H mu Q d S') : PostV K mg H' mu' Q d S' :=
  fun v H2 m2 e2 => p v H2 m2 (e.trans e2)
theorem Post.mono (e : Ext H mu H' mu') {Q : VK} {r : Res} (p : Post K mg W σ H mu Q r) : Post K mg W σ H' mu' Q r := by
  cases r with
  | ok d S => exact PostV.mono (Q := Q) (d := d) (S' := S) e p
  | exc c ns xs S => exact PostX.mono e p
theorem Posts.mono (e : Ext H mu H' mu') {Q : List V → Hp → Prop} {r : Ress} (p : Posts K mg W σ H mu Q r) : Posts K mg W σ H' mu' Q r := by
  cases r with
  | ok d S => exact fun v H2 m2 e2 => p v H2 m2 (e.trans e2)
  | exc c ns xs S => exact PostX.mono e p
/-- one expression, then more -/
theorem rd_bnd {f : Den} {k : D → Store → Option Res} {r : Res} {Q Q' : VK} (s : StOk K mg H mu S) (en : EnvOk K mg H mu σ ρ) (h : bnd (f ρ S) k = some r) (p : Post K mg W σ H mu Q r)
    (hk : ∀ d S1 v H1 m1, Ext H mu H1 m1 → StOk K mg H1 m1 S1 → EnvOk K mg H1 m1 σ ρ → Rep K mg H1 m1 v d → k d S1 = some r → Post K mg W σ H1 m1 Q r → Q' v H1) : rd K mg W f σ H Q' := by
  cases e : f ρ S with
  | none => rw [e] at h; cases h
  | some r1 =>
    rw [e] at h
    cases r1 with
    | ok d S1 => exact ⟨mu, S, ρ, _, s, en, e, fun v H1 m1 x s1 rp => hk d S1 v H1 m1 x s1 (en.mono x) rp h (p.mono x)⟩
    | exc c ns xs S1 =>
      have hr : r = .exc c ns xs S1 := (Option.some.inj h).symm
      subst hr
      exact ⟨mu, S, ρ, _, s, en, e, p⟩
theorem rd_bnds {f : Den} {k : D → Store → Option Ress} {r : Ress} {Q : List V → Hp → Prop} {Q' : VK} (s : StOk K mg H mu S) (en : EnvOk K mg H mu σ ρ) (h : bnds (f ρ S) k = some r) (p : Posts K mg W σ H mu Q r)
    (hk : ∀ d S1 v H1 m1, Ext H mu H1 m1 → StOk K mg H1 m1 S1 → EnvOk K mg H1 m1 σ ρ → Rep K mg H1 m1 v d → k d S1 = some r → Posts K mg W σ H1 m1 Q r → Q' v H1) : rd K mg W f σ H Q' := by
  cases e : f ρ S with
  | none => rw [e] at h; cases h
  | some r1 =>
    rw [e] at h
    cases r1 with
    | ok d S1 => exact ⟨mu, S, ρ, _, s, en, e, fun v H1 m1 x s1 rp => hk d S1 v H1 m1 x s1 (en.mono x) rp h (p.mono x)⟩
    | exc c ns xs S1 =>
      have hr : r = .exc c ns xs S1 := (Option.some.inj h).symm
      subst hr
      exact ⟨mu, S, ρ, _, s, en, e, p⟩
theorem rds_bndl {f : Dens} {k : List D → Store → Option Res} {r : Res} {Q : VK} {Q' : List V → Hp → Prop} (s : StOk K mg H mu S) (en : EnvOk K mg H mu σ ρ) (h : bndl (f ρ S) k = some r) (p : Post K mg W σ H mu Q r)
    (hk : ∀ d S1 v H1 m1, Ext H mu H1 m1 → StOk K mg H1 m1 S1 → EnvOk K mg H1 m1 σ ρ → Reps K mg H1 m1 v d → k d S1 = some r → Post K mg W σ H1 m1 Q r → Q' v H1) : rds K mg W f σ H Q' := by
  cases e : f ρ S with
  | none => rw [e] at h; cases h
  | some r1 =>
    rw [e] at h
    cases r1 with
    | ok d S1 => exact ⟨mu, S, ρ, _, s, en, e, fun v H1 m1 x s1 rp => hk d S1 v H1 m1 x s1 (en.mono x) rp h (p.mono x)⟩
    | exc c ns xs S1 =>
      have hr : r = .exc c ns xs S1 := (Option.some.inj h).symm
      subst hr
      exact ⟨mu, S, ρ, _, s, en, e, p⟩
theorem rds_bndls {f : Dens} {k : List D → Store → Option Ress} {r : Ress} {Q : List V → Hp → Prop} {Q' : List V → Hp → Prop} (s : StOk K mg H mu S) (en : EnvOk K mg H mu σ ρ) (h : bndls (f ρ S) k = some r) (p : Posts K mg W σ H mu Q r)
    (hk : ∀ d S1 v H1 m1, Ext H mu H1 m1 → StOk K mg H1 m1 S1 → EnvOk K mg H1 m1 σ ρ → Reps K mg H1 m1 v d → k d S1 = some r → Posts K mg W σ H1 m1 Q r → Q' v H1) : rds K mg W f σ H Q' := by
  cases e : f ρ S with
  | none => rw [e] at h; cases h
  | some r1 =>
    rw [e] at h
    cases r1 with
    | ok d S1 => exact ⟨mu, S, ρ, _, s, en, e, fun v H1 m1 x s1 rp => hk d S1 v H1 m1 x s1 (en.mono x) rp h (p.mono x)⟩
    | exc c ns xs S1 =>
      have hr : r = .exc c ns xs S1 := (Option.some.inj h).symm
      subst hr
      exact ⟨mu, S, ρ, _, s, en, e, p⟩
end

/-! ### the judgements -/
theorem peI {X : Cx} {e : Expr} {t t' : TE} (h : PE X e t) (i : ∀ σ H Q, t' σ H Q → t σ H Q) : PE X e t' := ⟨fun pins s σ H Q I q => h.run pins s σ H Q I (i σ H Q q)⟩
theorem ptI {X : Cx} {e : Expr} {t t' : TT} (h : PT X e t) (i : ∀ σ H Q, t' σ H Q → t σ H Q) : PT X e t' := ⟨fun pins s σ H Q I q => h.run pins s σ H Q I (i σ H Q q)⟩
theorem paI {X : Cx} {e : List Expr} {t t' : TA} (h : PA X e t) (i : ∀ σ H Q, t' σ H Q → t σ H Q) : PA X e t' := ⟨fun pos pins s σ H Q I q => h.run pos pins s σ H Q I (i σ H Q q)⟩
theorem psI {X : Cx} {e : Stmt} {t t' : TS} (h : PS X e t) (i : ∀ D σ H, t' D σ H → t D σ H) : PS X e t' := ⟨fun pins s σ H D I q => h.run pins s σ H D I (i D σ H q)⟩
theorem pssI {X : Cx} {e : List Stmt} {t t' : TS} (h : PSs X e t) (i : ∀ D σ H, t' D σ H → t D σ H) : PSs X e t' := ⟨fun pins s σ H D I q => h.run pins s σ H D I (i D σ H q)⟩
def DE (X : Cx) (W : WX) (e : Expr) (f : Den) : Prop := PE X e (rd X.K X.mg W f)
def DT (X : Cx) (W : WX) (e : Expr) (f : Den) : Prop := PT X e (rdt X.K X.mg W f)
def DA (X : Cx) (W : WX) (es : List Expr) (f : Dens) : Prop := PA X es (rds X.K X.mg W f)

section
variable {X : Cx} {W : WX} {a b c e : Expr} {fa fb fc : Den} {pos : Pos}

/-! ### names and constants -/
def dVar (i : Nat) : Den := fun ρ S => match ρ[i]? with
  | some (some d) => some (.ok d S)
  | _ => none
def dC (d : D) : Den := fun _ S => some (.ok d S)
theorem de_var (i : Nat) {x : Str} {pos : Pos} (hN : X.N[i]? = some x := by rfl) (hv : Vis X.env.scope x := by first | exact Or.inl rfl | exact Or.inr (Or.inl rfl) | exact Or.inr (Or.inr rfl)) (hd : (x == ("__debug__" : Str)) = false := by decide)
    (hcd : (x == ("__classdict__" : Str)) = false := by decide) : DE X W (.Name x pos) (dVar i) := by
  refine peI (pe_var hN hv hd hcd) fun σ H Q h => ?_
  obtain ⟨mu, S, ρ, r, s, en, hf, p⟩ := h
  unfold dVar at hf
  split at hf
  · rename_i d hd
    cases hf
    obtain ⟨v, h1, h2⟩ := en.at_ i d hd
    exact ⟨v, h1, p v H mu (Ext.refl _ _) s h2⟩
  · cases hf
theorem de_const {v : V} {d : D} (h : PE X e (tC v)) (r : ∀ H mu, Rep X.K X.mg H mu v d) : DE X W e (dC d) := by
  refine peI h fun σ H Q q => ?_
  obtain ⟨mu, S, ρ, res, s, en, hf, p⟩ := q
  cases hf
  exact p v H mu (Ext.refl _ _) s (r H mu)
theorem de_int {i j pos} : DE X W (.Constant (.int i) j pos) (dC (.int i)) := de_const pe_int fun _ _ => .int i
theorem de_bl {i j pos} : DE X W (.Constant (.bool i) j pos) (dC (.bl i)) := de_const pe_bl fun _ _ => .bl i
theorem de_non {j pos} : DE X W (.Constant .none j pos) (dC .non) := de_const pe_non fun _ _ => .non
theorem de_str {x j pos} : DE X W (.Constant (.str x) j pos) (dC (.str x)) := de_const pe_str fun _ _ => .str x

/-! ### operators -/
abbrev Op2 := D → D → Store → Option Res
abbrev Op1 := D → Store → Option Res
def dBin (op : Op2) (fa fb : Den) : Den := fun ρ S => bnd (fa ρ S) fun x S1 => bnd (fb ρ S1) fun y S2 => op x y S2
def dUn (op : Op1) (fa : Den) : Den := fun ρ S => bnd (fa ρ S) fun x S1 => op x S1
/-- the operator r by values does what op does by plain values -/
def OpD (X : Cx) (r : R2) (op : Op2) : Prop := ∀ (H : Hp) (mu : List Addr) (S : Store) (x y : V) (a b : D) (res : Res) (W : WX) (σ : L2.St) (Q : VK), StOk X.K X.mg H mu S → Rep X.K X.mg H mu x a → Rep X.K X.mg H mu y b → op a b S = some res → Post X.K X.mg W σ H mu Q res → r x y H Q
def UnD (X : Cx) (r : V → Hp → VK → Prop) (op : Op1) : Prop := ∀ (H : Hp) (mu : List Addr) (S : Store) (x : V) (a : D) (res : Res) (W : WX) (σ : L2.St) (Q : VK), StOk X.K X.mg H mu S → Rep X.K X.mg H mu x a → op a S = some res → Post X.K X.mg W σ H mu Q res → r x H Q
theorem rd_bin {r : R2} {op : Op2} (ho : OpD X r op) {σ : L2.St} {H : Hp} {Q : VK} (h : rd X.K X.mg W (dBin op fa fb) σ H Q) : tOp r (rd X.K X.mg W fa) (rd X.K X.mg W fb) σ H Q := by
  obtain ⟨mu, S, ρ, res, s, en, hf, p⟩ := h
  refine rd_bnd s en hf p fun d S1 v H1 m1 x s1 en1 rp h1 p1 => ?_
  refine rd_bnd s1 en1 h1 p1 fun d2 S2 v2 H2 m2 x2 s2 en2 rp2 h2 p2 => ?_
  exact ho H2 m2 S2 v v2 d d2 res W σ Q s2 (rp.mono x2) rp2 h2 p2
theorem de_bin {op : Operator} {r : R2} {dop : Op2} (ho : OpR X (binaryOp op) r) (hd : OpD X r dop) (ha : DE X W a fa) (hb : DE X W b fb) : DE X W (.BinOp a op b pos) (dBin dop fa fb) :=
  peI (pe_op ho ha hb) fun σ H Q h => rd_bin hd h
theorem de_cmp {op : CmpOp} {r : R2} {dop : Op2} (ho : OpR X (compareOp op) r) (hd : OpD X r dop) (ha : DE X W a fa) (hb : DE X W b fb) (hm : behindInMarks op b = false) : DE X W (.Compare a [op] [b] pos) (dBin dop fa fb) :=
  peI (pe_cmpR ho ha hb hm) fun σ H Q h => rd_bin hd h
theorem de_un {op : UnaryOp} {r : V → Hp → VK → Prop} {dop : Op1} (ho : UnR X (unaryOp op) r) (hd : UnD X r dop) (ha : DE X W a fa) : DE X W (.UnaryOp op a pos) (dUn dop fa) := by
  refine peI (pe_un ho ha) fun σ H Q h => ?_
  obtain ⟨mu, S, ρ, res, s, en, hf, p⟩ := h
  refine rd_bnd s en hf p fun d S1 v H1 m1 x s1 en1 rp h1 p1 => ?_
  exact hd H1 m1 S1 v d res W σ Q s1 rp h1 p1
/-- the operator's answer is one value, nothing changes -/
theorem Post.val {σ : L2.St} {H : Hp} {mu : List Addr} {S : Store} {Q : VK} {d : D} {v : V} (p : Post X.K X.mg W σ H mu Q (.ok d S)) (s : StOk X.K X.mg H mu S) (r : Rep X.K X.mg H mu v d) : Q v H := p v H mu (Ext.refl _ _) s r
def oInt2 (g : Int → Int → Option D) : Op2 := fun a b S => match a, b with
  | .int i, .int j => (g i j).map fun d => .ok d S
  | _, _ => none
theorem opD_int {r : R2} {g : Int → Int → Option D} (h : ∀ i j d, g i j = some d → ∀ (H : Hp) (Q : VK), (∀ v, (∀ mu, Rep X.K X.mg H mu v d) → Q v H) → r (.int i) (.int j) H Q) : OpD X r (oInt2 g) := by
  intro H mu S x y a b res W σ Q s ra rb ho p
  cases a <;> cases b <;> try (cases ho)
  cases ra
  cases rb
  rename_i i j
  simp only [oInt2] at ho
  cases e : g i j with
  | none => rw [e] at ho; cases ho
  | some d =>
    rw [e] at ho
    cases ho
    exact h i j d e H Q fun v hv => Post.val p s (hv mu)
abbrev oAdd : Op2 := oInt2 fun i j => some (.int (i + j))
abbrev oSub : Op2 := oInt2 fun i j => some (.int (i - j))
abbrev oLt : Op2 := oInt2 fun i j => some (.bl (decide (i < j)))
abbrev oLe : Op2 := oInt2 fun i j => some (.bl (decide (i ≤ j)))
abbrev oGt : Op2 := oInt2 fun i j => some (.bl (decide (j < i)))
abbrev oGe : Op2 := oInt2 fun i j => some (.bl (decide (j ≤ i)))
theorem de_sub (ha : DE X W a fa) (hb : DE X W b fb) : DE X W (.BinOp a .Sub b pos) (dBin oSub fa fb) := de_bin op_sub (opD_int fun i j d e H Q q => by cases e; exact ⟨i, j, rfl, rfl, q _ fun mu => .int _⟩) ha hb
theorem de_lt (ha : DE X W a fa) (hb : DE X W b fb) : DE X W (.Compare a [.Lt] [b] pos) (dBin oLt fa fb) := de_cmp op_lt (opD_int fun i j d e H Q q => by cases e; exact ⟨i, j, rfl, rfl, q _ fun mu => .bl _⟩) ha hb (nomark _)
theorem de_le (ha : DE X W a fa) (hb : DE X W b fb) : DE X W (.Compare a [.LtE] [b] pos) (dBin oLe fa fb) := de_cmp op_le (opD_int fun i j d e H Q q => by cases e; exact ⟨i, j, rfl, rfl, q _ fun mu => .bl _⟩) ha hb (nomark _)
theorem de_gt (ha : DE X W a fa) (hb : DE X W b fb) : DE X W (.Compare a [.Gt] [b] pos) (dBin oGt fa fb) := de_cmp op_gt (opD_int fun i j d e H Q q => by cases e; exact ⟨i, j, rfl, rfl, q _ fun mu => .bl _⟩) ha hb (nomark _)
theorem de_ge (ha : DE X W a fa) (hb : DE X W b fb) : DE X W (.Compare a [.GtE] [b] pos) (dBin oGe fa fb) := de_cmp op_ge (opD_int fun i j d e H Q q => by cases e; exact ⟨i, j, rfl, rfl, q _ fun mu => .bl _⟩) ha hb (nomark _)
end
end PD
set_option Elab.async false
set_option linter.all false
set_option maxRecDepth 100000
set_option maxHeartbeats 4000000
namespace PD
open PySem PySem.Spec PyProof.Rows L2
section
variable {X : Cx} {W : WX} {a b c e : Expr} {fa fb fc : Den} {pos : Pos}

/-! ### lists of values -/
def asList (S : Store) : D → Option (List D)
  | .lst xs => some xs
  | .ref n => S[n]?
  | _ => none
/-- a frozen or a changing list -/
theorem rep_list {H : Hp} {mu : List Addr} {S : Store} {v : V} {d : D} {xs : List D} (s : StOk X.K X.mg H mu S) (r : Rep X.K X.mg H mu v d) (h : asList S d = some xs) : ∃ p vs, v = .ref p ∧ H p = some (.lst vs) ∧ Reps X.K X.mg H mu vs xs := by
  cases d with
  | lst ys =>
    cases h
    cases r with
    | lst h n r => exact ⟨_, _, rfl, h, r⟩
  | ref n =>
    cases r with
    | ref h' =>
      obtain ⟨vs, h1, h2⟩ := s.at_ n _ xs h' h
      exact ⟨_, _, rfl, h1, h2⟩
  | _ => cases h
def asSeq (S : Store) : D → Option (List D)
  | .lst xs => some xs
  | .tup xs => some xs
  | .scr ns => some (ns.map D.int)
  | .ref n => S[n]?
  | _ => none
theorem rep_seq {H : Hp} {mu : List Addr} {S : Store} {v : V} {d : D} {xs : List D} (s : StOk X.K X.mg H mu S) (r : Rep X.K X.mg H mu v d) (h : asSeq S d = some xs) : ∃ p vs, v = .ref p ∧ (SqL X.K H p vs ∨ SqT X.K H p vs) ∧ Reps X.K X.mg H mu vs xs := by
  cases d with
  | lst ys =>
    cases h
    cases r with
    | lst h n r => exact ⟨_, _, rfl, .inl (.of h), r⟩
  | tup ys =>
    cases h
    cases r with
    | tup h r => exact ⟨_, _, rfl, .inr h.sq, r⟩
  | scr ns =>
    cases h
    cases r with
    | scr h => exact ⟨_, _, rfl, .inl h.sq, .ints ns⟩
  | ref n =>
    cases r with
    | ref h' =>
      obtain ⟨vs, h1, h2⟩ := s.at_ n _ xs h' h
      exact ⟨_, _, rfl, .inl (.of h1), h2⟩
  | _ => cases h
theorem line_eq : sizeLine = 16777216 := sizeLine_eq
/-- a new frozen list, a new tuple -/
theorem Post.lst {σ : L2.St} {H : Hp} {mu : List Addr} {S : Store} {Q : VK} {ds : List D} {vs : List V} (p : Post X.K X.mg W σ H mu Q (.ok (.lst ds) S)) (s : StOk X.K X.mg H mu S) (r : Reps X.K X.mg H mu vs ds) : ∀ q, H q = none → Q (.ref q) (upd H q (.lst vs)) := fun q hq => by
  have n := s.free hq
  have x : Ext H mu (upd H q (.lst vs)) mu := Ext.fresh hq n
  exact p _ _ mu x (s.fresh hq) (.lst upd_same n (r.mono x))
theorem Post.tup {σ : L2.St} {H : Hp} {mu : List Addr} {S : Store} {Q : VK} {ds : List D} {vs : List V} (p : Post X.K X.mg W σ H mu Q (.ok (.tup ds) S)) (s : StOk X.K X.mg H mu S) (r : Reps X.K X.mg H mu vs ds) : ∀ q, H q = none → Q (.ref q) (upd H q (.tup vs)) := fun q hq => by
  have n := s.free hq
  have x : Ext H mu (upd H q (.tup vs)) mu := Ext.fresh hq n
  exact p _ _ mu x (s.fresh hq) (.tup (.inl ⟨.inl upd_same, n⟩) (r.mono x))
/-- a new list that may change -/
theorem Post.mut {σ : L2.St} {H : Hp} {mu : List Addr} {S : Store} {Q : VK} {ds : List D} {vs : List V} (p : Post X.K X.mg W σ H mu Q (.ok (.ref S.length) (S ++ [ds]))) (s : StOk X.K X.mg H mu S) (r : Reps X.K X.mg H mu vs ds) : ∀ q, H q = none → Q (.ref q) (upd H q (.lst vs)) := fun q hq => by
  have x : Ext H mu (upd H q (.lst vs)) (mu ++ [q]) := Ext.grow s hq
  refine p _ _ (mu ++ [q]) x (s.grow hq r) (.ref ?_)
  rw [← s.len, List.getElem?_append_right (Nat.le_refl _)]
  simp

/-! ### + -/
def lPlus : Op2 := fun a b S => match asList S a, asList S b with
  | some xs, some ys => if xs.length + ys.length ≤ 16777216 then some (.ok (.lst (xs ++ ys)) S) else none
  | _, _ => none
def oPlus : Op2 := fun a b S => match a, b with
  | .int i, .int j => some (.ok (.int (i + j)) S)
  | .str x, .str y => if x.length + y.length ≤ 16777216 then some (.ok (.str (x ++ y)) S) else none
  | .tup xs, .tup ys => if xs.length + ys.length ≤ 16777216 then some (.ok (.tup (xs ++ ys)) S) else none
  | a, b => lPlus a b S
abbrev rPlus (K : PySem.W.Frag) : R2 := fun x y H Q => (rI0 fun i j => .int (i + j)) x y H Q ∨ ((fun x y H Q => ∃ i j, x = .str i ∧ y = .str j ∧ i.length + j.length ≤ sizeLine ∧ Q (.str (i ++ j)) H : R2) x y H Q ∨ ((rCatA K) x y H Q ∨ rCat x y H Q))
theorem op_plus : OpR X (binaryOp .Add) (rPlus X.K) := op_add.or (op_add_str.or (op_catA.or op_cat))
theorem opD_plus : OpD X (rPlus X.K) oPlus := by
  intro H mu S x y a b res W σ Q s ra rb ho p
  have lists : lPlus a b S = some res → rPlus X.K x y H Q := fun ho => by
    unfold lPlus at ho
    split at ho
    · rename_i xs ys h1 h2
      split at ho
      · rename_i hz
        cases ho
        obtain ⟨p1, vs, rfl, e1, r1⟩ := rep_list s ra h1
        obtain ⟨p2, ws, rfl, e2, r2⟩ := rep_list s rb h2
        exact .inr (.inr (.inr ⟨p1, p2, vs, ws, rfl, rfl, e1, e2, by rw [r1.length, r2.length, line_eq]; exact hz, p.lst s (r1.append r2)⟩))
      · cases ho
    · cases ho
  cases a <;> cases b <;> (try exact lists ho)
  · cases ho; cases ra; cases rb
    exact .inl ⟨_, _, rfl, rfl, p.val s (.int _)⟩
  · simp only [oPlus] at ho
    split at ho
    · cases ho; cases ra; cases rb
      exact .inr (.inl ⟨_, _, rfl, rfl, by rw [line_eq]; assumption, p.val s (.str _)⟩)
    · cases ho
  · simp only [oPlus] at ho
    split at ho
    · rename_i xs ys hz
      cases ho
      cases ra with
      | tup h1 r1 =>
        cases rb with
        | tup h2 r2 =>
          refine .inr (.inr (.inl ⟨_, _, _, _, rfl, rfl, h1.sq, h2.sq, by rw [r1.length, r2.length, line_eq]; exact hz, fun e => ?_, fun _ e => ?_, fun _ _ => p.tup s (r1.append r2)⟩))
          · subst e
            cases r1
            exact p.val s (.tup h2 r2)
          · subst e
            cases r2
            rw [List.append_nil] at p
            exact p.val s (.tup h1 r1)
    · cases ho
theorem de_add (ha : DE X W a fa) (hb : DE X W b fb) : DE X W (.BinOp a .Add b pos) (dBin oPlus fa fb) := de_bin op_plus opD_plus ha hb

/-! ### * -/
def small64 (i : Int) : Bool := decide (-(2 ^ 64) < i) && decide (i < 2 ^ 64)
def mulFits (i j : Int) : Bool := small64 i || small64 j || decide (i.natAbs.log2 + j.natAbs.log2 < 1000000)
def oMulI : Op2 := oInt2 fun i j => if mulFits i j then some (.int (i * j)) else none
theorem op_mulA : OpR X (binaryOp .Mult) (fun x y H Q => (rI CMul fun i j => .int (i * j)) x y H Q ∨ (rI CMulW fun i j => .int (i * j)) x y H Q) := op_mul.or op_mulW
theorem small64_ok {i : Int} (h : small64 i = true) : -(2 ^ 64) < i ∧ i < 2 ^ 64 := by
  unfold small64 at h
  simpa using h
theorem opD_mulI : OpD X (fun x y H Q => (rI CMul fun i j => .int (i * j)) x y H Q ∨ (rI CMulW fun i j => .int (i * j)) x y H Q) oMulI := opD_int fun i j d e H Q q => by
  split at e
  · rename_i h
    cases e
    unfold mulFits at h
    rw [Bool.or_eq_true, Bool.or_eq_true] at h
    rcases h with (h | h) | h
    · exact .inl ⟨i, j, rfl, rfl, .inl (small64_ok h), q _ fun mu => .int _⟩
    · exact .inl ⟨i, j, rfl, rfl, .inr (small64_ok h), q _ fun mu => .int _⟩
    · exact .inr ⟨i, j, rfl, rfl, show i.natAbs.log2 + j.natAbs.log2 < 1000000 from of_decide_eq_true h, q _ fun mu => .int _⟩
  · cases e
/-- int * int, list * int, tuple * int -/
def lMul : Op2 := fun a b S => match b with
  | .int k => (match asList S a with
    | some xs => if -(2 ^ 63) ≤ k ∧ k < 2 ^ 63 ∧ xs.length * k.toNat ≤ 16777216 then some (.ok (.lst (List.replicate k.toNat xs).flatten) S) else none
    | none => none)
  | _ => none
instance (xs : List D) : Decidable (xs ≠ []) := match xs with
  | [] => isFalse (fun h => h rfl)
  | _ :: _ => isTrue (fun h => nomatch h)
def oMul : Op2 := fun a b S => match a, b with
  | .int i, .int j => if mulFits i j then some (.ok (.int (i * j)) S) else none
  | .tup xs, .int k => if k = 1 then some (.ok (.tup xs) S) else if k = 0 ∧ xs ≠ [] then some (.ok (.tup []) S) else if 2 ≤ k ∧ k ≤ 1000 ∧ xs.length ≤ 1000 ∧ xs ≠ [] then some (.ok (.tup (List.replicate k.toNat xs).flatten) S) else none
  | a, b => lMul a b S
theorem reps_rep {H : Hp} {mu : List Addr} {vs : List V} {ds : List D} (r : Reps X.K X.mg H mu vs ds) : ∀ k : Nat, Reps X.K X.mg H mu (List.replicate k vs).flatten (List.replicate k ds).flatten
  | 0 => .nil
  | k + 1 => by
    rw [List.replicate_succ, List.replicate_succ, List.flatten_cons, List.flatten_cons]
    exact r.append (reps_rep r k)
/-- a tuple times 1 is that tuple -/
theorem tuple_once (l : Addr) (its : Array Value) (n : Nat) (dd : Option Addr) (sl : Array (Option Value)) (u : Tok) :
    Meets (Builtin.«tuple.__mul__» ⟨[.ref l, .int 1 u], []⟩) (fun _ R s => s.heap.get? l = some { cls := .type "tuple", dict := dd, data := .seq its n, slots := sl } ∧ R (.ok (.ret (Value.ref l))) s) :=
  .of_wp fun prog w A R s h => by
    obtain ⟨hp, gn, dr, tk, os⟩ := s
    obtain ⟨there, h⟩ := h
    have ix := AutoSeq1.idx_int
    have yes : (its.isEmpty || (1 : Int) == 1) = true := by cases its.isEmpty <;> rfl
    wp_walk using wpAny_loadPart' there
    repeat (first
      | (refine wpAny_ite_false (decide_eq_false (by decide)) ?_; wp_walk using wpAny_loadPart' there)
      | (refine wpAny_ite_true (decide_eq_true yes) ?_; wp_walk using wpAny_loadPart' there)
      | (rw [if_pos yes]; wp_walk using wpAny_loadPart' there))
    first
      | exact ⟨_, rfl, h⟩
      | exact h
def rOnce (K : PySem.W.Frag) : R2 := fun x y H Q => ∃ l xs, x = .ref l ∧ y = .int 1 ∧ SqT K H l xs ∧ Q (.ref l) H
theorem op_once : OpR X (binaryOp .Mult) (rOnce X.K) := by
  intro pins s σ H x y v u Q J rx ry h
  obtain ⟨l, xs, rfl, rfl, hT, q⟩ := h
  cases rx
  obtain ⟨t, rfl⟩ := ry
  obtain ⟨its, r, ⟨⟨cls, dd, data, sl⟩, ho, hc, n, hd⟩, _⟩ := J.tuple hT
  simp only at hc hd
  subst hc hd
  exact wpAny_binaryOp_repeat_ref (T := "tuple") (U := "int") (by decide) ⟨_, ho, rfl⟩ (fun s' => typeIs_int s' 1 t) noFill_tuple_mul F.fills_int_mul F.slot_int_rmul repeat_tuple F.slot_int_index.lookup
    (call_meets F.slot_int_rmul (typeIs_int s 1 t) F.entry_int_rmul (F.args_int_rmul_2 _ _) (int_rmul_tuple 1 t l its.toArray n dd sl)
      ⟨ho, rfl, ⟨_, ho, rfl⟩, call_meets F.slot_tuple_mul ⟨_, ho, rfl⟩ F.entry_tuple_mul (F.args_tuple_mul_2 _ _) (tuple_once l its.toArray n dd sl t) ⟨ho, .ref l, H, J, rfl, q⟩⟩)
/-- a tuple times 0 is a new empty one -/
theorem tuple_zero (l : Addr) (its : Array Value) (n : Nat) (dd : Option Addr) (sl : Array (Option Value)) (u : Tok) (c1 : (its.isEmpty || (0 : Int) == 1) = false) :
    Meets (Builtin.«tuple.__mul__» ⟨[.ref l, .int 0 u], []⟩) (fun _ R s => s.heap.get? l = some { cls := .type "tuple", dict := dd, data := .seq its n, slots := sl } ∧
      R (.ok (.ret (Value.ref s.heap.objs.size))) { s with heap := s.heap.push { cls := Value.type "tuple", data := Data.seq #[] }, toks := s.toks }) :=
  .of_wp fun prog w A R s h => by
    obtain ⟨hp, g, d, tk, os⟩ := s
    obtain ⟨hl, h⟩ := h
    have f1 := AutoSeq1.idx_int
    wp_walk using wpAny_loadPart' hl
    repeat (first
      | (refine wpAny_ite_false (decide_eq_false (by decide)) ?_; wp_walk using wpAny_loadPart' hl)
      | (refine wpAny_ite_false (decide_eq_false (by rw [c1]; exact Bool.false_ne_true)) ?_; wp_walk using wpAny_loadPart' hl)
      | (refine wpAny_ite_true (decide_eq_true (by rfl)) ?_; wp_walk using wpAny_loadPart' hl))
    exact ⟨_, rfl, h⟩
def rZero (K : PySem.W.Frag) : R2 := fun x y H Q => ∃ l xs, x = .ref l ∧ y = .int 0 ∧ SqT K H l xs ∧ xs ≠ [] ∧ ∀ p, H p = none → Q (.ref p) (upd H p (.tup []))
theorem op_zero : OpR X (binaryOp .Mult) (rZero X.K) := by
  intro pins s σ H x y v u Q I rx ry h
  obtain ⟨l, xs, rfl, rfl, hT, hne, q⟩ := h
  cases rx
  obtain ⟨t, rfl⟩ := ry
  obtain ⟨its, r, ⟨⟨cls, dd, data, sl⟩, ho, hc, n, hd⟩, hs⟩ := I.tuple hT
  simp only at hc hd
  subst hc hd
  have hle : its.length = xs.length := r.length.symm
  have hn : its ≠ [] := fun e => hne (by
    rw [e] at hle
    exact List.eq_nil_of_length_eq_zero hle.symm)
  have c1 : (its.toArray.isEmpty || (0 : Int) == 1) = false := by
    cases its with
    | nil => exact absurd rfl hn
    | cons a b => rfl
  refine wpAny_binaryOp_repeat_ref (T := "tuple") (U := "int") (by decide) ⟨_, ho, rfl⟩ (fun s' => typeIs_int s' 0 t) noFill_tuple_mul F.fills_int_mul F.slot_int_rmul repeat_tuple F.slot_int_index.lookup
    (call_meets F.slot_int_rmul (typeIs_int s 0 t) F.entry_int_rmul (F.args_int_rmul_2 _ _) (int_rmul_tuple 0 t l its.toArray n dd sl)
      ⟨ho, rfl, ⟨_, ho, rfl⟩, call_meets F.slot_tuple_mul ⟨_, ho, rfl⟩ F.entry_tuple_mul (F.args_tuple_mul_2 _ _) (tuple_zero l its.toArray n dd sl t c1) ⟨ho, ?_⟩⟩)
  refine ⟨.ref s.heap.objs.size, _, I.laid (t' := s.toks) (o := .tup []) (fun b ob q => Heap.get?_push_of_some _ q) (Nat.le_refl _) ?_, rfl, q _ (I.hok.fresh (Nat.le_refl _))⟩
  exact ⟨Nat.zero_le _, [], .nil, IsTup.new _ _⟩
abbrev rMulA (K : PySem.W.Frag) : R2 := fun x y H Q => ((rI CMul fun i j => .int (i * j)) x y H Q ∨ (rI CMulW fun i j => .int (i * j)) x y H Q) ∨ ((rRepT K) x y H Q ∨ (rRep x y H Q ∨ ((rOnce K) x y H Q ∨ (rZero K) x y H Q)))
theorem op_mulAll : OpR X (binaryOp .Mult) (rMulA X.K) := op_mulA.or (op_repT.or (op_rep.or (op_once.or op_zero)))
theorem opD_mul : OpD X (rMulA X.K) oMul := by
  intro H mu S x y a b res W σ Q s ra rb ho p
  have lists : lMul a b S = some res → rMulA X.K x y H Q := fun ho => by
    unfold lMul at ho
    split at ho
    · rename_i k
      split at ho
      · rename_i xs h1
        split at ho
        · rename_i hz
          cases ho
          cases rb
          obtain ⟨p1, vs, rfl, e1, r1⟩ := rep_list s ra h1
          exact .inr (.inr (.inl ⟨p1, _, vs, rfl, rfl, e1, hz.1, hz.2.1, by rw [r1.length, line_eq]; exact hz.2.2, p.lst s (reps_rep r1 _)⟩))
        · cases ho
      · cases ho
    · cases ho
  cases a <;> cases b <;> (try exact lists ho)
  · rename_i i j
    have ho' : oMulI (.int i) (.int j) S = some res := by
      simp only [oMulI, oInt2]
      rw [← ho]
      simp only [oMul]
      split <;> rfl
    exact .inl (opD_mulI H mu S x y _ _ res W σ Q s ra rb ho' p)
  · simp only [oMul] at ho
    split at ho
    · rename_i hk
      cases ho
      cases rb
      subst hk
      cases ra with
      | tup h1 r1 => exact .inr (.inr (.inr (.inl ⟨_, _, rfl, rfl, h1.sq, p.val s (.tup h1 r1)⟩)))
    split at ho
    · rename_i hz
      cases ho
      cases rb
      obtain ⟨hz, hn⟩ := hz
      subst hz
      cases ra with
      | tup h1 r1 =>
        have hne : ∀ {vs : List V} {ds : List D}, Reps X.K X.mg H mu vs ds → ds ≠ [] → vs ≠ [] := fun r h => by
          cases r with
          | nil => exact absurd rfl h
          | cons _ _ => exact fun z => nomatch z
        exact .inr (.inr (.inr (.inr ⟨_, _, rfl, rfl, h1.sq, hne r1 hn, p.tup s .nil⟩)))
    split at ho
    · rename_i hz
      cases ho
      cases rb
      cases ra with
      | tup h1 r1 =>
        have hne : ∀ {vs : List V} {ds : List D}, Reps X.K X.mg H mu vs ds → ds ≠ [] → vs ≠ [] := fun r h => by
          cases r with
          | nil => exact absurd rfl h
          | cons _ _ => exact fun z => nomatch z
        exact .inr (.inl ⟨_, _, _, rfl, rfl, h1.sq, hne r1 hz.2.2.2, hz.1, hz.2.1, by rw [r1.length]; exact hz.2.2.1, p.tup s (reps_rep r1 _)⟩)
    · cases ho
theorem de_mul (ha : DE X W a fa) (hb : DE X W b fb) : DE X W (.BinOp a .Mult b pos) (dBin oMul fa fb) := de_bin op_mulAll opD_mul ha hb

/-! ### % // ** - -/
abbrev oMod : Op2 := oInt2 fun i j => if 0 < j then some (.int (i % j)) else none
abbrev oDiv : Op2 := oInt2 fun i j => if 0 < j ∧ j.natAbs.log2 < 9000 then some (.int (i / j)) else none
abbrev oPow : Op2 := oInt2 fun i j => if 0 ≤ j ∧ j ≤ 1000000 ∧ i.natAbs < 2 ^ 64 then some (.int (i ^ j.toNat)) else none
theorem de_mod (ha : DE X W a fa) (hb : DE X W b fb) : DE X W (.BinOp a .Mod b pos) (dBin oMod fa fb) := de_bin op_mod (opD_int fun i j d e H Q q => by
  split at e
  · cases e; exact ⟨i, j, rfl, rfl, by assumption, q _ fun mu => .int _⟩
  · cases e) ha hb
theorem de_div (ha : DE X W a fa) (hb : DE X W b fb) : DE X W (.BinOp a .FloorDiv b pos) (dBin oDiv fa fb) := de_bin op_fdivW (opD_int fun i j d e H Q q => by
  split at e
  · cases e; exact ⟨i, j, rfl, rfl, by assumption, q _ fun mu => .int _⟩
  · cases e) ha hb
theorem de_pow (ha : DE X W a fa) (hb : DE X W b fb) : DE X W (.BinOp a .Pow b pos) (dBin oPow fa fb) := de_bin op_pow (opD_int fun i j d e H Q q => by
  split at e
  · cases e; exact ⟨i, j, rfl, rfl, by assumption, q _ fun mu => .int _⟩
  · cases e) ha hb
def oNeg : Op1 := fun a S => match a with
  | .int i => some (.ok (.int (-i)) S)
  | _ => none
theorem de_neg (ha : DE X W a fa) : DE X W (.UnaryOp .USub a pos) (dUn oNeg fa) := de_un un_neg (fun H mu S x d res W σ Q s r ho p => by
  cases d <;> try (cases ho; done)
  cases ho; cases r
  exact ⟨_, rfl, p.val s (.int _)⟩) ha

/-! ### == and != by data -/
mutual
def pyr (g : Nat → Option PyData) : D → Option PyData
  | .non => some .none
  | .bl b => some (.bool b)
  | .int i => some (.int i)
  | .str s => some (.str s)
  | .tup xs => (pyrs g xs).map .tuple
  | .lst xs => (pyrs g xs).map .list
  | .scr ns => some (.list (ns.map .int))
  | .ref k => g k
  | .err _ _ _ => none
  | .rng _ _ => none
  | .cau .. => none
  | .fn _ => none
def pyrs (g : Nat → Option PyData) : List D → Option (List PyData)
  | [] => some []
  | x :: xs => match pyr g x, pyrs g xs with
    | some y, some ys => some (y :: ys)
    | _, _ => none
end
def pyg (S : Store) : Nat → Nat → Option PyData
  | 0, _ => none
  | j + 1, k => match S[k]? with
    | some xs => (pyrs (pyg S j) xs).map .list
    | none => none
def toPy (S : Store) (d : D) : Option PyData := pyr (pyg S 3) d
theorem dp_ints {K : PySem.W.Frag} {H : Hp} : ∀ ns : List Int, DpAll K H (ns.map V.int) (ns.map PyData.int)
  | [] => .nil
  | n :: ns => .cons (.int n) (dp_ints ns)
mutual
theorem rep_dp {H : Hp} {mu : List Addr} {g : Nat → Option PyData} (hg : ∀ k v y, Rep X.K X.mg H mu v (.ref k) → g k = some y → Dp X.K H v y) : ∀ {v : V} {d : D} {y : PyData}, Rep X.K X.mg H mu v d → pyr g d = some y → Dp X.K H v y
  | _, _, _, .non, h => by simp only [pyr] at h; cases h; exact .non
  | _, _, _, .bl b, h => by simp only [pyr] at h; cases h; exact .bl b
  | _, _, _, .int i, h => by simp only [pyr] at h; cases h; exact .int i
  | _, _, _, .str i, h => by simp only [pyr] at h; cases h; exact .str i
  | _, _, _, .tup hq r, h => by
    simp only [pyr] at h
    obtain ⟨ys, h1, rfl⟩ := Option.map_eq_some_iff.mp h
    exact .tup hq.sq (reps_dp hg r h1)
  | _, _, _, .lst hq hn r, h => by
    simp only [pyr] at h
    obtain ⟨ys, h1, rfl⟩ := Option.map_eq_some_iff.mp h
    exact .lst (.of hq) (reps_dp hg r h1)
  | _, _, _, .scr hq, h => by
    simp only [pyr] at h
    cases h
    exact .lst hq.sq (dp_ints _)
  | _, _, _, .ref hq, h => by
    simp only [pyr] at h
    exact hg _ _ _ (.ref hq) h
  | _, _, _, .err .., h => by simp only [pyr] at h; cases h
  | _, _, _, .cau .., h => by simp only [pyr] at h; cases h
  | _, _, _, .fn .., h => by simp only [pyr] at h; cases h
theorem reps_dp {H : Hp} {mu : List Addr} {g : Nat → Option PyData} (hg : ∀ k v y, Rep X.K X.mg H mu v (.ref k) → g k = some y → Dp X.K H v y) : ∀ {vs : List V} {ds : List D} {ys : List PyData}, Reps X.K X.mg H mu vs ds → pyrs g ds = some ys → DpAll X.K H vs ys
  | _, _, _, .nil, h => by simp only [pyrs] at h; cases h; exact .nil
  | _, _, ys, .cons (d := d) (ds := ds) r t, h => by
    simp only [pyrs] at h
    cases e1 : pyr g d with
    | none => rw [e1] at h; cases h
    | some y =>
      cases e2 : pyrs g ds with
      | none => rw [e1, e2] at h; cases h
      | some zs =>
        rw [e1, e2] at h
        cases h
        exact .cons (rep_dp hg r e1) (reps_dp hg t e2)
end
theorem pyg_ok {H : Hp} {mu : List Addr} {S : Store} (s : StOk X.K X.mg H mu S) : ∀ (j k : Nat) (v : V) (y : PyData), Rep X.K X.mg H mu v (.ref k) → pyg S j k = some y → Dp X.K H v y
  | 0, _, _, _, _, h => by cases h
  | j + 1, k, v, y, r, h => by
    cases r with
    | ref hq =>
    simp only [pyg] at h
    cases e : S[k]? with
    | none => rw [e] at h; cases h
    | some xs =>
      rw [e] at h
      obtain ⟨ys, h1, rfl⟩ := Option.map_eq_some_iff.mp h
      obtain ⟨vs, hv, hr⟩ := s.at_ k _ xs hq e
      exact .lst (.of hv) (reps_dp (pyg_ok s j) hr h1)
def eqD (S : Store) (a b : D) : Option Bool := match toPy S a, toPy S b with
  | some x, some y => if SeqAt.shaped x && SeqAt.shaped y then some (PyData.eqv x y) else none
  | _, _ => none
theorem eqD_ok {H : Hp} {mu : List Addr} {S : Store} {x y : V} {a b : D} {k : Bool} (s : StOk X.K X.mg H mu S) (ra : Rep X.K X.mg H mu x a) (rb : Rep X.K X.mg H mu y b) (h : eqD S a b = some k) :
    ∃ d e, Dp X.K H x d ∧ Dp X.K H y e ∧ SeqAt.shaped d = true ∧ SeqAt.shaped e = true ∧ k = PyData.eqv d e := by
  unfold eqD at h
  split at h
  · rename_i d e h1 h2
    split at h
    · rename_i hs
      cases h
      rw [Bool.and_eq_true] at hs
      exact ⟨d, e, rep_dp (pyg_ok s 3) ra h1, rep_dp (pyg_ok s 3) rb h2, hs.1, hs.2, rfl⟩
    · cases h
  · cases h
def oEq : Op2 := fun a b S => (eqD S a b).map fun k => .ok (.bl k) S
def oNe : Op2 := fun a b S => (eqD S a b).map fun k => .ok (.bl (!k)) S
theorem de_eq (hu : X.A.units + 64 < cLine) (ha : DE X W a fa) (hb : DE X W b fb) : DE X W (.Compare a [.Eq] [b] pos) (dBin oEq fa fb) := de_cmp (op_eqD hu) (fun H mu S x y a b res W σ Q s ra rb ho p => by
  obtain ⟨k, h1, rfl⟩ := Option.map_eq_some_iff.mp ho
  obtain ⟨d, e, q1, q2, q3, q4, rfl⟩ := eqD_ok s ra rb h1
  exact ⟨d, e, q1, q2, q3, q4, p.val s (.bl _)⟩) ha hb (nomark _)
theorem de_ne (hu : X.A.units + 64 < cLine) (ha : DE X W a fa) (hb : DE X W b fb) : DE X W (.Compare a [.NotEq] [b] pos) (dBin oNe fa fb) := de_cmp (op_neD hu) (fun H mu S x y a b res W σ Q s ra rb ho p => by
  obtain ⟨k, h1, rfl⟩ := Option.map_eq_some_iff.mp ho
  obtain ⟨d, e, q1, q2, q3, q4, rfl⟩ := eqD_ok s ra rb h1
  exact ⟨d, e, q1, q2, q3, q4, p.val s (.bl _)⟩) ha hb (nomark _)
/-! ### is None -/
def isNon : D → Bool
  | .non => true
  | _ => false
def dIsN (f : Den) : Den := fun ρ S => bnd (f ρ S) fun d S1 => some (.ok (.bl (isNon d)) S1)
def dNotN (f : Den) : Den := fun ρ S => bnd (f ρ S) fun d S1 => some (.ok (.bl (!isNon d)) S1)
theorem rep_non {H : Hp} {mu : List Addr} {v : V} {d : D} (r : Rep X.K X.mg H mu v d) : decide (v = .non) = isNon d := by
  cases r <;> first | rfl | (exact decide_eq_false (fun z => nomatch z))
theorem de_isN {j pos'} (ha : DE X W a fa) : DE X W (.Compare a [.Is] [.Constant .none j pos'] pos) (dIsN fa) := by
  refine peI (pe_cmp (pc_isN ha)) fun σ H Q h => ?_
  obtain ⟨mu, S, ρ, res, s, en, hf, p⟩ := h
  refine rd_bnd s en hf p fun d S1 v H1 m1 x s1 en1 rp h1 p1 => ?_
  cases h1
  rw [rep_non rp]
  exact p1.val s1 (.bl _)
theorem de_notN {j pos'} (ha : DE X W a fa) : DE X W (.Compare a [.IsNot] [.Constant .none j pos'] pos) (dNotN fa) := by
  refine peI (pe_cmp (pc_notN ha)) fun σ H Q h => ?_
  obtain ⟨mu, S, ρ, res, s, en, hf, p⟩ := h
  refine rd_bnd s en hf p fun d S1 v H1 m1 x s1 en1 rp h1 p1 => ?_
  cases h1
  rw [rep_non rp]
  exact p1.val s1 (.bl _)
end
end PD
set_option Elab.async false
set_option linter.all false
set_option maxRecDepth 100000
set_option maxHeartbeats 4000000
namespace PD
open PySem PySem.Spec PyProof.Rows L2
section
variable {X : Cx} {W : WX} {a b c e : Expr} {fa fb fc : Den} {pos : Pos}

/-! ### tests -/
/-- a value's truth -/
def truth (S : Store) : D → Option Bool
  | .non => some false
  | .bl b => some b
  | .int i => some (i != 0)
  | .str s => if s.length ≤ 16777216 then some ((s.length : Int) != 0) else none
  | .tup xs => some !xs.isEmpty
  | .lst xs => some !xs.isEmpty
  | .scr ns => some !ns.isEmpty
  | .ref k => (S[k]?).map fun xs => !xs.isEmpty
  | .err .. => none
  | .rng .. => none
  | .cau .. => none
  | .fn _ => none
def dTru (f : Den) : Den := fun ρ S => bnd (f ρ S) fun d S1 => (truth S1 d).map fun k => .ok (.bl k) S1
theorem reps_empty {H : Hp} {mu : List Addr} {vs : List V} {ds : List D} (r : Reps X.K X.mg H mu vs ds) : vs.isEmpty = ds.isEmpty := by cases r <;> rfl
theorem rep_truth {H : Hp} {mu : List Addr} {S : Store} {v : V} {d : D} {k : Bool} (s : StOk X.K X.mg H mu S) (r : Rep X.K X.mg H mu v d) (h : truth S d = some k) : TruV X.K v H k := by
  cases r with
  | non => cases h; rfl
  | bl b => cases h; rfl
  | int i => cases h; rfl
  | str x =>
    simp only [truth] at h
    split at h
    · cases h; exact ⟨by rw [line_eq]; assumption, rfl⟩
    · cases h
  | tup hq r => cases h; exact .inr (.inl ⟨_, hq.sq, by rw [reps_empty r]⟩)
  | lst hq n r => cases h; exact .inl ⟨_, .of hq, by rw [reps_empty r]⟩
  | @scr a ns hq => cases h; exact .inl ⟨_, hq.sq, by cases ns <;> rfl⟩
  | rng hq n => cases h
  | ref hq =>
    simp only [truth] at h
    obtain ⟨xs, h1, rfl⟩ := Option.map_eq_some_iff.mp h
    obtain ⟨vs, hv, hr⟩ := s.at_ _ _ xs hq h1
    exact .inl ⟨_, .of hv, by rw [reps_empty hr]⟩
  | err => cases h
  | cau => cases h
  | fn => cases h
/-- a test by its value's truth -/
theorem dt_truth (ha : DE X W a fa) (he : ∀ whole, isTrue a X.env whole = (do let v ← whole; standAt a.pos; holding [v] (truthy v)) := by intro _; rfl) : DT X W a (dTru fa) := by
  refine ptI (pt_truth ha he) fun σ H Q h => ?_
  obtain ⟨mu, S, ρ, res, s, en, hf, p⟩ := h
  unfold dTru at hf
  cases e : fa ρ S with
  | none => rw [e] at hf; cases hf
  | some r1 =>
    rw [e] at hf
    cases r1 with
    | exc c ns xs S1 =>
      have hr : res = .exc c ns xs S1 := (Option.some.inj hf).symm
      subst hr
      exact ⟨mu, S, ρ, _, s, en, e, p⟩
    | ok d S1 =>
      obtain ⟨k, h1, rfl⟩ := Option.map_eq_some_iff.mp hf
      exact ⟨mu, S, ρ, _, s, en, e, fun v H1 m1 x s1 rp => ⟨k, rep_truth s1 rp h1, p H1 m1 x s1⟩⟩
/-- a comparison as a test -/
theorem dt_cmp {op : CmpOp} {r : R2} {dop : Op2} (ho : OpR X (compareOp op) r) (hd : OpD X r dop) (ha : DE X W a fa) (hb : DE X W b fb) (hm : behindInMarks op b = false)
    (hk : ∀ x y S res, dop x y S = some res → ∃ k, res = .ok (.bl k) S) : DT X W (.Compare a [op] [b] pos) (dBin dop fa fb) := by
  refine ptI (pt_cmpR ho ha hb hm) fun σ H Q h => ?_
  obtain ⟨mu, S, ρ, res, s, en, hf, p⟩ := h
  -- as an expression with the wish that the answer is a truth value
  have h2 : rd X.K X.mg W (dBin dop fa fb) σ H (fun x H' => ∃ k, x = V.bl k ∧ Q k H') := by
    refine ⟨mu, S, ρ, res, s, en, hf, ?_⟩
    cases res with
    | exc c ns xs S1 => exact p
    | ok d S1 =>
      cases d <;> first | exact False.elim p | skip
      intro v H' mu' x s' rp
      cases rp
      exact ⟨_, rfl, p H' mu' x s'⟩
  exact rd_bin hd h2
theorem ok_int2 {g : Int → Int → Bool} : ∀ (x y : D) (S : Store) (res : Res), oInt2 (fun i j => some (.bl (g i j))) x y S = some res → ∃ k, res = .ok (.bl k) S := fun x y S res h => by
  cases x <;> cases y <;> try (cases h; done)
  cases h
  exact ⟨_, rfl⟩
theorem dt_lt (ha : DE X W a fa) (hb : DE X W b fb) : DT X W (.Compare a [.Lt] [b] pos) (dBin oLt fa fb) := dt_cmp op_lt (opD_int fun i j d e H Q q => by cases e; exact ⟨i, j, rfl, rfl, q _ fun mu => .bl _⟩) ha hb (nomark _) ok_int2
theorem dt_le (ha : DE X W a fa) (hb : DE X W b fb) : DT X W (.Compare a [.LtE] [b] pos) (dBin oLe fa fb) := dt_cmp op_le (opD_int fun i j d e H Q q => by cases e; exact ⟨i, j, rfl, rfl, q _ fun mu => .bl _⟩) ha hb (nomark _) ok_int2
theorem dt_gt (ha : DE X W a fa) (hb : DE X W b fb) : DT X W (.Compare a [.Gt] [b] pos) (dBin oGt fa fb) := dt_cmp op_gt (opD_int fun i j d e H Q q => by cases e; exact ⟨i, j, rfl, rfl, q _ fun mu => .bl _⟩) ha hb (nomark _) ok_int2
theorem dt_ge (ha : DE X W a fa) (hb : DE X W b fb) : DT X W (.Compare a [.GtE] [b] pos) (dBin oGe fa fb) := dt_cmp op_ge (opD_int fun i j d e H Q q => by cases e; exact ⟨i, j, rfl, rfl, q _ fun mu => .bl _⟩) ha hb (nomark _) ok_int2
theorem opD_eq (X : Cx) : OpD X (rEqD X.K) oEq := fun H mu S x y a b res W σ Q s ra rb ho p => by
  obtain ⟨k, h1, rfl⟩ := Option.map_eq_some_iff.mp ho
  obtain ⟨d, e, q1, q2, q3, q4, rfl⟩ := eqD_ok s ra rb h1
  exact ⟨d, e, q1, q2, q3, q4, p.val s (.bl _)⟩
theorem opD_ne (X : Cx) : OpD X (rNeD X.K) oNe := fun H mu S x y a b res W σ Q s ra rb ho p => by
  obtain ⟨k, h1, rfl⟩ := Option.map_eq_some_iff.mp ho
  obtain ⟨d, e, q1, q2, q3, q4, rfl⟩ := eqD_ok s ra rb h1
  exact ⟨d, e, q1, q2, q3, q4, p.val s (.bl _)⟩
theorem dt_eq (hu : X.A.units + 64 < cLine) (ha : DE X W a fa) (hb : DE X W b fb) : DT X W (.Compare a [.Eq] [b] pos) (dBin oEq fa fb) := dt_cmp (op_eqD hu) (opD_eq X) ha hb (nomark _) fun x y S res h => by
  obtain ⟨k, h1, rfl⟩ := Option.map_eq_some_iff.mp h
  exact ⟨_, rfl⟩
theorem dt_ne (hu : X.A.units + 64 < cLine) (ha : DE X W a fa) (hb : DE X W b fb) : DT X W (.Compare a [.NotEq] [b] pos) (dBin oNe fa fb) := dt_cmp (op_neD hu) (opD_ne X) ha hb (nomark _) fun x y S res h => by
  obtain ⟨k, h1, rfl⟩ := Option.map_eq_some_iff.mp h
  exact ⟨_, rfl⟩
/-- an expression of truth value as a test (is None, ..) -/
theorem dt_val (ha : DE X W a fa) (hk : ∀ ρ S res, fa ρ S = some res → (∃ k S', res = .ok (.bl k) S') ∨ ∃ c ns xs S', res = .exc c ns xs S') (h : ∀ {t : TE}, PE X a t → PT X a (tB t)) : DT X W a fa := by
  refine ptI (h ha) fun σ H Q q => ?_
  obtain ⟨mu, S, ρ, res, s, en, hf, p⟩ := q
  refine ⟨mu, S, ρ, res, s, en, hf, ?_⟩
  rcases hk ρ S res hf with ⟨k, S', rfl⟩ | ⟨c, ns, xs, S', rfl⟩
  · intro v H' mu' x s' rp
    cases rp
    exact ⟨_, rfl, p H' mu' x s'⟩
  · exact p
theorem bl_isN {f : Den} {neg : Bool} : ∀ ρ S res, bnd (f ρ S) (fun d S1 => some (.ok (.bl (neg ^^ isNon d)) S1)) = some res → (∃ k S', res = .ok (.bl k) S') ∨ ∃ c ns xs S', res = .exc c ns xs S' := fun ρ S res h => by
  cases e : f ρ S with
  | none => rw [e] at h; cases h
  | some r1 =>
    rw [e] at h
    cases r1 with
    | ok d S1 => cases h; exact .inl ⟨_, _, rfl⟩
    | exc c ns xs S1 => cases h; exact .inr ⟨_, _, _, _, rfl⟩
theorem dt_isN {j pos'} (ha : DE X W a fa) : DT X W (.Compare a [.Is] [.Constant .none j pos'] pos) (dIsN fa) := by
  refine ptI (pt_cmp (pc_isN ha)) fun σ H Q q => ?_
  obtain ⟨mu, S, ρ, res, s, en, hf, p⟩ := q
  have h2 : rd X.K X.mg W (dIsN fa) σ H (fun x H' => ∃ k, x = V.bl k ∧ Q k H') := by
    refine ⟨mu, S, ρ, res, s, en, hf, ?_⟩
    rcases bl_isN (neg := false) ρ S res (by simpa [dIsN] using hf) with ⟨k, S', rfl⟩ | ⟨c, ns, xs, S', rfl⟩
    · intro v H' mu' x s' rp
      cases rp
      exact ⟨_, rfl, p H' mu' x s'⟩
    · exact p
  obtain ⟨mu, S, ρ, res, s, en, hf, p⟩ := h2
  refine rd_bnd s en hf p fun d S1 v H1 m1 x s1 en1 rp h1 p1 => ?_
  cases h1
  rw [rep_non rp]
  exact p1.val s1 (.bl _)
theorem dt_notN {j pos'} (ha : DE X W a fa) : DT X W (.Compare a [.IsNot] [.Constant .none j pos'] pos) (dNotN fa) := by
  refine ptI (pt_cmp (pc_notN ha)) fun σ H Q q => ?_
  obtain ⟨mu, S, ρ, res, s, en, hf, p⟩ := q
  have h2 : rd X.K X.mg W (dNotN fa) σ H (fun x H' => ∃ k, x = V.bl k ∧ Q k H') := by
    refine ⟨mu, S, ρ, res, s, en, hf, ?_⟩
    rcases bl_isN (neg := true) ρ S res (by simpa [dNotN] using hf) with ⟨k, S', rfl⟩ | ⟨c, ns, xs, S', rfl⟩
    · intro v H' mu' x s' rp
      cases rp
      exact ⟨_, rfl, p H' mu' x s'⟩
    · exact p
  obtain ⟨mu, S, ρ, res, s, en, hf, p⟩ := h2
  refine rd_bnd s en hf p fun d S1 v H1 m1 x s1 en1 rp h1 p1 => ?_
  cases h1
  rw [rep_non rp]
  exact p1.val s1 (.bl _)

/-! ### and, or, not -/
def bndB (o : Option Res) (k : Bool → Store → Option Res) : Option Res := bnd o fun d S => match d with
  | .bl b => k b S
  | _ => none
@[simp] theorem bndB_bl (b : Bool) (S : Store) (k : Bool → Store → Option Res) : bndB (some (.ok (.bl b) S)) k = k b S := rfl
@[simp] theorem bndB_exc (c : Str) (ns : List Str) (xs : List D) (S : Store) (k : Bool → Store → Option Res) : bndB (some (.exc c ns xs S)) k = some (.exc c ns xs S) := rfl
@[simp] theorem bndB_none (k : Bool → Store → Option Res) : bndB none k = none := rfl
def dAnd (f g : Den) : Den := fun ρ S => bndB (f ρ S) fun b S1 => if b then g ρ S1 else some (.ok (.bl false) S1)
def dOr (f g : Den) : Den := fun ρ S => bndB (f ρ S) fun b S1 => if b then some (.ok (.bl true) S1) else g ρ S1
def dNot (f : Den) : Den := fun ρ S => bndB (f ρ S) fun b S1 => some (.ok (.bl (!b)) S1)
theorem bndB_some {o : Option Res} {k : Bool → Store → Option Res} {r : Res} (h : bndB o k = some r) : (∃ b S, o = some (.ok (.bl b) S) ∧ k b S = some r) ∨ ∃ c ns xs S, o = some (.exc c ns xs S) ∧ r = .exc c ns xs S := by
  unfold bndB bnd at h
  split at h
  · rename_i d S
    cases d <;> first | (cases h; done) | exact .inl ⟨_, _, rfl, h⟩
  · cases h; exact .inr ⟨_, _, _, _, rfl, rfl⟩
  · cases h
/-- a test, then more -/
theorem rdt_bnd {K : PySem.W.Frag} {mg : Str → Option Value} {H : Hp} {mu : List Addr} {σ : L2.St} {ρ : EnvD} {S : Store} {f : Den} {k : Bool → Store → Option Res} {r : Res} {R : Res → Prop} {Q' : Bool → Hp → Prop} (s : StOk K mg H mu S) (en : EnvOk K mg H mu σ ρ) (h : bndB (f ρ S) k = some r)
    (px : ∀ c ns xs S1, r = .exc c ns xs S1 → PostX K mg W σ H mu c ns xs S1)
    (hk : ∀ b S1 H1 m1, Ext H mu H1 m1 → StOk K mg H1 m1 S1 → EnvOk K mg H1 m1 σ ρ → k b S1 = some r → Q' b H1) : rdt K mg W f σ H Q' := by
  rcases bndB_some h with ⟨b, S1, h1, h2⟩ | ⟨c, ns, xs, S1, h1, h2⟩
  · exact ⟨mu, S, ρ, _, s, en, h1, fun H1 m1 x s1 => hk b S1 H1 m1 x s1 (en.mono x) h2⟩
  · exact ⟨mu, S, ρ, _, s, en, h1, px _ _ _ _ h2⟩
def PostT (K : PySem.W.Frag) (mg : Str → Option Value) (W : WX) (σ : L2.St) (H : Hp) (mu : List Addr) (Q : Bool → Hp → Prop) (r : Res) : Prop := match r with
  | .ok (.bl b) S' => ∀ (H' : Hp) (mu' : List Addr), Ext H mu H' mu' → StOk K mg H' mu' S' → Q b H'
  | .ok _ _ => False
  | .exc c ns xs S' => PostX K mg W σ H mu c ns xs S'
theorem PostT.mono {K : PySem.W.Frag} {mg : Str → Option Value} {H H' : Hp} {mu mu' : List Addr} {σ : L2.St} {Q : Bool → Hp → Prop} {r : Res} (e : Ext H mu H' mu') (p : PostT K mg W σ H mu Q r) : PostT K mg W σ H' mu' Q r := by
  cases r with
  | ok d S => cases d <;> first | exact False.elim p | exact fun H2 m2 e2 => p H2 m2 (e.trans e2)
  | exc c ns xs S => exact PostX.mono e p
theorem rdt_iff {K : PySem.W.Frag} {mg : Str → Option Value} {f : Den} {σ : L2.St} {H : Hp} {Q : Bool → Hp → Prop} : rdt K mg W f σ H Q ↔ ∃ mu S ρ r, StOk K mg H mu S ∧ EnvOk K mg H mu σ ρ ∧ f ρ S = some r ∧ PostT K mg W σ H mu Q r := Iff.rfl
theorem PostT.exc {K : PySem.W.Frag} {mg : Str → Option Value} {H : Hp} {mu : List Addr} {σ : L2.St} {Q : Bool → Hp → Prop} {r : Res} (p : PostT K mg W σ H mu Q r) : ∀ c ns xs S1, r = .exc c ns xs S1 → PostX K mg W σ H mu c ns xs S1 := fun c ns xs S1 h => by subst h; exact p
theorem PostT.bl {K : PySem.W.Frag} {mg : Str → Option Value} {H : Hp} {mu : List Addr} {σ : L2.St} {Q : Bool → Hp → Prop} {b : Bool} {S : Store} (p : PostT K mg W σ H mu Q (.ok (.bl b) S)) (s : StOk K mg H mu S) : Q b H := p H mu (Ext.refl _ _) s
/-- tests joined: DW has no 'whole' -/
def DW (X : Cx) (W : WX) (e : Expr) (f : Den) : Prop := PW X e (rdt X.K X.mg W f)
theorem DW.dt {e : Expr} {f : Den} (h : DW X W e f) : DT X W e f := PW.pt h
theorem pwI {t t' : TT} (h : PW X e t) (i : ∀ σ H Q, t' σ H Q → t σ H Q) : PW X e t' := ⟨fun wh pins s σ H Q I q => h.run wh pins s σ H Q I (i σ H Q q)⟩
variable {rest : List Expr}
theorem dw_and1 (ha : DT X W a fa) : DW X W (.BoolOp .And [a] pos) fa := pw_and1 ha
theorem dw_or1 (ha : DT X W a fa) : DW X W (.BoolOp .Or [a] pos) fa := pw_or1 ha
theorem dw_and (ha : DT X W a fa) (hb : DW X W (.BoolOp .And (b :: rest) pos) fb) : DW X W (.BoolOp .And (a :: b :: rest) pos) (dAnd fa fb) := by
  refine pwI (pw_and ha hb) fun σ H Q h => ?_
  obtain ⟨mu, S, ρ, r, s, en, hf, p⟩ := h
  have p' : PostT X.K X.mg W σ H mu Q r := p
  refine rdt_bnd (R := fun _ => True) s en hf p'.exc fun b S1 H1 m1 x s1 en1 h1 => ?_
  have p1 := PostT.mono x p'
  cases b with
  | true => exact ⟨m1, S1, ρ, r, s1, en1, h1, p1⟩
  | false => cases h1; exact p1.bl s1
theorem dw_or (ha : DT X W a fa) (hb : DW X W (.BoolOp .Or (b :: rest) pos) fb) : DW X W (.BoolOp .Or (a :: b :: rest) pos) (dOr fa fb) := by
  refine pwI (pw_or ha hb) fun σ H Q h => ?_
  obtain ⟨mu, S, ρ, r, s, en, hf, p⟩ := h
  have p' : PostT X.K X.mg W σ H mu Q r := p
  refine rdt_bnd (R := fun _ => True) s en hf p'.exc fun b S1 H1 m1 x s1 en1 h1 => ?_
  have p1 := PostT.mono x p'
  cases b with
  | true => cases h1; exact p1.bl s1
  | false => exact ⟨m1, S1, ρ, r, s1, en1, h1, p1⟩
theorem dt_not (ha : DT X W a fa) : DT X W (.UnaryOp .Not a pos) (dNot fa) := by
  refine ptI (pt_not ha) fun σ H Q h => ?_
  obtain ⟨mu, S, ρ, r, s, en, hf, p⟩ := h
  have p' : PostT X.K X.mg W σ H mu Q r := p
  refine rdt_bnd (R := fun _ => True) s en hf p'.exc fun b S1 H1 m1 x s1 en1 h1 => ?_
  have p1 := PostT.mono x p'
  cases h1
  exact p1.bl s1
/-- as values -/
theorem de_one {op} (ha : DE X W a fa) : DE X W (.BoolOp op [a] pos) fa := pe_one ha
theorem de_and (ha : DE X W a fa) (hb : DE X W (.BoolOp .And (b :: rest) pos) fb) : DE X W (.BoolOp .And (a :: b :: rest) pos) (dAnd fa fb) := by
  refine peI (pe_and ha hb) fun σ H Q h => ?_
  obtain ⟨mu, S, ρ, r, s, en, hf, p⟩ := h
  rcases bndB_some hf with ⟨b, S1, h1, h2⟩ | ⟨c, ns, xs, S1, h1, rfl⟩
  · refine ⟨mu, S, ρ, _, s, en, h1, fun v H1 m1 x s1 rp => ?_⟩
    cases rp
    refine ⟨_, rfl, ?_⟩
    cases b with
    | true => exact ⟨m1, S1, ρ, r, s1, en.mono x, h2, p.mono x⟩
    | false => cases h2; exact (p.mono x).val s1 (.bl _)
  · exact ⟨mu, S, ρ, _, s, en, h1, p⟩
theorem de_or (ha : DE X W a fa) (hb : DE X W (.BoolOp .Or (b :: rest) pos) fb) : DE X W (.BoolOp .Or (a :: b :: rest) pos) (dOr fa fb) := by
  refine peI (pe_or ha hb) fun σ H Q h => ?_
  obtain ⟨mu, S, ρ, r, s, en, hf, p⟩ := h
  rcases bndB_some hf with ⟨b, S1, h1, h2⟩ | ⟨c, ns, xs, S1, h1, rfl⟩
  · refine ⟨mu, S, ρ, _, s, en, h1, fun v H1 m1 x s1 rp => ?_⟩
    cases rp
    refine ⟨_, rfl, ?_⟩
    cases b with
    | false => exact ⟨m1, S1, ρ, r, s1, en.mono x, h2, p.mono x⟩
    | true => cases h2; exact (p.mono x).val s1 (.bl _)
  · exact ⟨mu, S, ρ, _, s, en, h1, p⟩
theorem de_not (ha : DE X W a fa) : DE X W (.UnaryOp .Not a pos) (dNot fa) := by
  refine peI (pe_not ha) fun σ H Q h => ?_
  obtain ⟨mu, S, ρ, r, s, en, hf, p⟩ := h
  rcases bndB_some hf with ⟨b, S1, h1, h2⟩ | ⟨c, ns, xs, S1, h1, rfl⟩
  · refine ⟨mu, S, ρ, _, s, en, h1, fun v H1 m1 x s1 rp => ?_⟩
    cases rp
    cases h2
    exact ⟨_, rfl, (p.mono x).val s1 (.bl _)⟩
  · exact ⟨mu, S, ρ, _, s, en, h1, p⟩
/-- not, of any value by its truth -/
def dNotT (f : Den) : Den := dNot (dTru f)
def dIf (t f g : Den) : Den := fun ρ S => bndB (t ρ S) fun b S1 => if b then f ρ S1 else g ρ S1
theorem de_if {ft : Den} (hc : DT X W c ft) (ha : DE X W a fa) (hb : DE X W b fb) : DE X W (.IfExp c a b pos) (dIf ft fa fb) := by
  refine peI (pe_ifExp hc ha hb) fun σ H Q h => ?_
  obtain ⟨mu, S, ρ, r, s, en, hf, p⟩ := h
  refine rdt_bnd (R := fun _ => True) s en hf (fun c ns xs S1 h => by subst h; exact p) fun b S1 H1 m1 x s1 en1 h1 => ?_
  cases b with
  | true => exact iteT ⟨m1, S1, ρ, r, s1, en1, h1, p.mono x⟩
  | false => exact iteF ⟨m1, S1, ρ, r, s1, en1, h1, p.mono x⟩
end
end PD
set_option Elab.async false
set_option linter.all false
set_option maxRecDepth 100000
set_option maxHeartbeats 4000000
namespace PD
open PySem PySem.Spec PyProof.Rows L2
section
variable {X : Cx} {W : WX} {a b c e : Expr} {es : List Expr} {fa fb fc : Den} {ga gb : Dens} {pos p p1 p2 : Pos}

/-! ### lists of expressions, displays -/
def dNil : Dens := fun _ S => some (.ok [] S)
def dCons (f : Den) (g : Dens) : Dens := fun ρ S => bnds (f ρ S) fun d S1 => bndls (g ρ S1) fun ds S2 => some (.ok (d :: ds) S2)
def dStar (f : Den) (g : Dens) : Dens := fun ρ S => bnds (f ρ S) fun d S1 => match asSeq S1 d with
  | some xs => bndls (g ρ S1) fun ds S2 => some (.ok (xs ++ ds) S2)
  | none => none
theorem da_nil : DA X W [] dNil := by
  refine paI pa_nil fun σ H Q h => ?_
  obtain ⟨mu, S, ρ, r, s, en, hf, q⟩ := h
  cases hf
  exact q [] H mu (Ext.refl _ _) s .nil
theorem da_cons (ha : DE X W e fa) (hr : DA X W es ga) (hs : starEach (e :: es) X.env = (false, eval e X.env) :: starEach es X.env := by rfl) : DA X W (e :: es) (dCons fa ga) := by
  refine paI (pa_cons ha hr hs) fun σ H Q h => ?_
  obtain ⟨mu, S, ρ, r, s, en, hf, q⟩ := h
  refine rd_bnds s en hf q fun d S1 v H1 m1 x s1 en1 rp h1 q1 => ?_
  refine rds_bndls s1 en1 h1 q1 fun ds S2 vs H2 m2 x2 s2 en2 rp2 h2 q2 => ?_
  cases h2
  exact q2 _ H2 m2 (Ext.refl _ _) s2 (.cons (rp.mono x2) rp2)
theorem da_star (ha : DE X W e fa) (hr : DA X W es ga) (hs : starEach (.Starred e p :: es) X.env = (true, eval e X.env) :: starEach es X.env := by rfl) : DA X W (.Starred e p :: es) (dStar fa ga) := by
  refine paI (StX.pa_star ha hr hs) fun σ H Q h => ?_
  obtain ⟨mu, S, ρ, r, s, en, hf, q⟩ := h
  refine rd_bnds s en hf q fun d S1 v H1 m1 x s1 en1 rp h1 q1 => ?_
  cases e1 : asSeq S1 d with
  | none => rw [e1] at h1; cases h1
  | some xs =>
    rw [e1] at h1
    obtain ⟨a, vs, rfl, hq, rv⟩ := rep_seq s1 rp e1
    refine ⟨a, vs, rfl, hq.symm, ?_⟩
    refine rds_bndls s1 en1 h1 q1 fun ds S2 ws H2 m2 x2 s2 en2 rp2 h2 q2 => ?_
    cases h2
    exact q2 _ H2 m2 (Ext.refl _ _) s2 ((rv.mono x2).append rp2)
def fits (n : Nat) : Bool := decide (n ≤ 16777216)
theorem fits_ok {n : Nat} (h : fits n = true) : n ≤ sizeLine := by rw [line_eq]; exact of_decide_eq_true h
def dTup (g : Dens) : Den := fun ρ S => bndl (g ρ S) fun ds S1 => if fits ds.length then some (.ok (.tup ds) S1) else none
def dLst (g : Dens) : Den := fun ρ S => bndl (g ρ S) fun ds S1 => if fits ds.length then some (.ok (.lst ds) S1) else none
/-- a displayed list that may change later -/
def dLstM (g : Dens) : Den := fun ρ S => bndl (g ρ S) fun ds S1 => if fits ds.length then some (.ok (.ref S1.length) (S1 ++ [ds])) else none
theorem de_tup {x1} (h : DA X W es ga) : DE X W (.Tuple es x1 pos) (dTup ga) := by
  refine peI (pe_tup h) fun σ H Q q => ?_
  obtain ⟨mu, S, ρ, r, s, en, hf, q⟩ := q
  refine rds_bndl s en hf q fun ds S1 vs H1 m1 x s1 en1 rp h1 q1 => ?_
  split at h1
  · rename_i hz
    cases h1
    exact ⟨by rw [rp.length]; exact fits_ok hz, q1.tup s1 rp⟩
  · cases h1
theorem de_lst (h : DA X W es ga) : DE X W (.List es pos) (dLst ga) := by
  refine peI (pe_lst h) fun σ H Q q => ?_
  obtain ⟨mu, S, ρ, r, s, en, hf, q⟩ := q
  refine rds_bndl s en hf q fun ds S1 vs H1 m1 x s1 en1 rp h1 q1 => ?_
  split at h1
  · rename_i hz
    cases h1
    exact ⟨by rw [rp.length]; exact fits_ok hz, q1.lst s1 rp⟩
  · cases h1
theorem de_lstM (h : DA X W es ga) : DE X W (.List es pos) (dLstM ga) := by
  refine peI (pe_lst h) fun σ H Q q => ?_
  obtain ⟨mu, S, ρ, r, s, en, hf, q⟩ := q
  refine rds_bndl s en hf q fun ds S1 vs H1 m1 x s1 en1 rp h1 q1 => ?_
  split at h1
  · rename_i hz
    cases h1
    exact ⟨by rw [rp.length]; exact fits_ok hz, q1.mut s1 rp⟩
  · cases h1

/-! ### subscripts, slices -/
def oIx : Op2 := fun o i S => match i with
  | .int k => (match o with
    | .str z => if fits z.length then (atI z.cps.toList k).map fun c => .ok (.str ⟨#[c]⟩) S else none
    | o => match asSeq S o with
      | some xs => (atI xs k).map fun d => .ok d S
      | none => none)
  | _ => none
theorem reps_at {H : Hp} {mu : List Addr} {vs : List V} {ds : List D} {k : Int} {d : D} (r : Reps X.K X.mg H mu vs ds) (h : atI ds k = some d) : ∃ v, atI vs k = some v ∧ Rep X.K X.mg H mu v d := by
  unfold atI at h ⊢
  rw [r.length]
  cases e : ixN ds.length k with
  | none => rw [e] at h; cases h
  | some j =>
    rw [e] at h
    obtain ⟨v, h1, h2⟩ := r.get h
    exact ⟨v, h1, h2⟩
theorem opD_ix : OpD X (rIx X.K) oIx := by
  intro H mu S x y a b res W σ Q s ra rb ho p
  unfold oIx at ho
  cases b <;> try (cases ho; done)
  rename_i k
  cases rb
  have seqs : (match asSeq S a with | some xs => (atI xs k).map fun d => Res.ok d S | none => none) = some res → rIx X.K x (.int k) H Q := fun ho => by
    cases e : asSeq S a with
    | none => rw [e] at ho; cases ho
    | some xs =>
      rw [e] at ho
      obtain ⟨d, h1, rfl⟩ := Option.map_eq_some_iff.mp ho
      obtain ⟨q, vs, rfl, hq, rv⟩ := rep_seq s ra e
      obtain ⟨v, h2, h3⟩ := reps_at rv h1
      rcases hq with hq | hq
      · exact .inl ⟨q, vs, k, v, rfl, rfl, hq, h2, p.val s h3⟩
      · exact .inr (.inl ⟨q, vs, k, v, rfl, rfl, hq, h2, p.val s h3⟩)
  cases a <;> first | exact seqs ho | skip
  simp only at ho
  split at ho
  · rename_i hz
    obtain ⟨ch, h1, rfl⟩ := Option.map_eq_some_iff.mp ho
    cases ra
    exact .inr (.inr ⟨_, k, ch, rfl, rfl, fits_ok hz, h1, p.val s (.str _)⟩)
  · cases ho
theorem de_ix (ha : DE X W a fa) (hb : DE X W b fb) (hs : PlainIx b := by intro _ _; rfl) : DE X W (.Subscript a b pos) (dBin oIx fa fb) := peI (pe_ix ix_seq ha hb hs) fun σ H Q h => rd_bin opD_ix h
def cutD (xs : List D) (lo hi : Option Int) : List D := (xs.drop (HT.sIx xs.length 0 lo)).take (HT.sIx xs.length xs.length hi - HT.sIx xs.length 0 lo)
theorem reps_cut {H : Hp} {mu : List Addr} {vs : List V} {ds : List D} (r : Reps X.K X.mg H mu vs ds) (lo hi : Option Int) : Reps X.K X.mg H mu (cutV vs lo hi) (cutD ds lo hi) := by
  unfold cutV cutD
  rw [r.length]
  exact (r.drop _).take _
/-- the parts of a slice -/
def dPart (o : Option Den) (ρ : EnvD) (S : Store) (k : Option Int → Store → Option Res) : Option Res := match o with
  | none => k none S
  | some f => bnd (f ρ S) fun d S1 => match d with
    | .int i => k (some i) S1
    | _ => none
def DO (X : Cx) (W : WX) (e : Option Expr) (o : Option Den) : Prop := match e, o with
  | none, none => True
  | some e, some f => DE X W e f
  | _, _ => False
def roP (K : PySem.W.Frag) (mg : Str → Option Value) (W : WX) (o : Option Den) : TO := match o with
  | none => tNoPart
  | some f => tPart (rd K mg W f)
theorem po_of {eo : Option Expr} {o : Option Den} (h : DO X W eo o) : PO X eo (roP X.K X.mg W o) := by
  cases eo with
  | none => cases o with
    | none => exact po_none
    | some f => exact h.elim
  | some e => cases o with
    | none => exact h.elim
    | some f => exact po_some (show DE X W e f from h)
theorem ro_part {o : Option Den} {σ : L2.St} {H : Hp} {mu : List Addr} {S : Store} {ρ : EnvD} {k : Option Int → Store → Option Res} {r : Res} {Q : VK} {Q' : Option Int → Hp → Prop} (s : StOk X.K X.mg H mu S) (en : EnvOk X.K X.mg H mu σ ρ) (h : dPart o ρ S k = some r) (q : Post X.K X.mg W σ H mu Q r)
    (hk : ∀ i S1 H1 m1, Ext H mu H1 m1 → StOk X.K X.mg H1 m1 S1 → EnvOk X.K X.mg H1 m1 σ ρ → k i S1 = some r → Post X.K X.mg W σ H1 m1 Q r → Q' i H1) : roP X.K X.mg W o σ H Q' := by
  cases o with
  | none => exact hk none S H mu (Ext.refl _ _) s en h q
  | some f =>
    refine rd_bnd s en h q fun d S1 v H1 m1 x s1 en1 rp h1 q1 => ?_
    cases d <;> try (cases h1; done)
    cases rp
    exact ⟨_, rfl, hk _ S1 H1 m1 x s1 en1 h1 q1⟩
def oCut (o : D) (lo hi : Option Int) (S : Store) : Option Res := match o with
  | .tup xs => some (.ok (.tup (cutD xs lo hi)) S)
  | o => match asList S o with
    | some xs => some (.ok (.lst (cutD xs lo hi)) S)
    | none => none
def dCut (f : Den) (lo hi : Option Den) : Den := fun ρ S => bnd (f ρ S) fun o S1 => dPart lo ρ S1 fun i S2 => dPart hi ρ S2 fun j S3 => oCut o i j S3
theorem cut_whole (xs : List D) {lo hi : Option Int} (h : HT.sIx xs.length 0 lo = 0 ∧ HT.sIx xs.length xs.length hi = xs.length) : cutD xs lo hi = xs := by
  unfold cutD
  rw [h.1, h.2]
  simp
theorem de_cut {lo hi : Option Expr} {dl dh : Option Den} (ha : DE X W a fa) (hl : DO X W lo dl) (hh : DO X W hi dh) : DE X W (.Subscript a (.Slice lo hi none p2) pos) (dCut fa dl dh) := by
  refine peI (pe_slice (sl_list.or sl_tupA) ha (po_of hl) (po_of hh)) fun σ H Q h => ?_
  obtain ⟨mu, S, ρ, res, s, en, hf, q⟩ := h
  refine rd_bnd s en hf q fun d S1 v H1 m1 x s1 en1 rp h1 q1 => ?_
  refine ro_part s1 en1 h1 q1 fun i S2 H2 m2 x2 s2 en2 h2 q2 => ?_
  refine ro_part s2 en2 h2 q2 fun j S3 H3 m3 x3 s3 en3 h3 q3 => ?_
  have rp3 := (rp.mono x2).mono x3
  have lists : (match asList S3 d with | some xs => some (Res.ok (.lst (cutD xs i j)) S3) | none => none) = some res → rSlL X.K v i j H3 Q ∨ rSlA X.K v i j H3 Q := fun h3 => by
    cases e : asList S3 d with
    | none => rw [e] at h3; cases h3
    | some xs =>
      rw [e] at h3
      cases h3
      obtain ⟨z, vs, rfl, hz, rv⟩ := rep_list s3 rp3 e
      exact .inl ⟨z, vs, rfl, .of hz, q3.lst s3 (reps_cut rv i j)⟩
  cases d <;> first | exact lists h3 | skip
  cases h3
  cases rp3 with
  | tup hq rv =>
    refine .inr ⟨_, _, rfl, hq.sq, fun hw => ?_, fun _ => q3.tup s3 (reps_cut rv i j)⟩
    rw [rv.length] at hw
    rw [cut_whole _ hw] at q3
    exact q3.val s3 (.tup hq rv)

/-! ### calls of built-ins -/
abbrev Op := List D → Store → Option Res
def dCall (op : Op) (g : Dens) : Den := fun ρ S => bndl (g ρ S) op
def CallD (X : Cx) (r : List V → Hp → VK → Prop) (op : Op) : Prop := ∀ (H : Hp) (mu : List Addr) (S : Store) (vs : List V) (ds : List D) (res : Res) (W : WX) (σ : L2.St) (Q : VK), StOk X.K X.mg H mu S → Reps X.K X.mg H mu vs ds → op ds S = some res → Post X.K X.mg W σ H mu Q res → r vs H Q
theorem rd_call {r : List V → Hp → VK → Prop} {op : Op} (hd : CallD X r op) {σ : L2.St} {H : Hp} {Q : VK} (h : rd X.K X.mg W (dCall op ga) σ H Q) : tCB r (rds X.K X.mg W ga) σ H Q := by
  obtain ⟨mu, S, ρ, res, s, en, hf, q⟩ := h
  refine rds_bndl s en hf q fun ds S1 vs H1 m1 x s1 en1 rp h1 q1 => ?_
  exact hd H1 m1 S1 vs ds res W σ Q s1 rp h1 q1
theorem de_callB {id : String} {x : Str} {r : List V → Hp → VK → Prop} {op : Op} (hc : CallR X (.builtin id) r) (hd : CallD X r op) (hv : bootBuiltins x = some (.builtin id)) (hm : X.mg x = none) (ha : DA X W (e :: es) ga) (hg : Gl X x := by rfl) (hn : x ≠ "__name__" := by decide) (hdb : (x == ("__debug__" : Str)) = false := by decide)
    (he : starEach (e :: es) X.env = (false, eval e X.env) :: starEach es X.env := by rfl) (hpl : (backTo pos (starEach es X.env)).any (·.1) = false := by rfl) : DE X W (.Call (.Name x p) (e :: es) [] pos) (dCall op ga) :=
  peI (pe_callB hc hg hm hv ha hn hdb he hpl) fun σ H Q h => rd_call hd h
theorem de_callTy {T : String} {x : Str} {r : List V → Hp → VK → Prop} {op : Op} (hc : CallR X (.type T) r) (hd : CallD X r op) (hv : bootBuiltins x = some (.type T)) (hm : X.mg x = none) (ha : DA X W (e :: es) ga) (hg : Gl X x := by rfl) (hn : x ≠ "__name__" := by decide) (hdb : (x == ("__debug__" : Str)) = false := by decide)
    (he : starEach (e :: es) X.env = (false, eval e X.env) :: starEach es X.env := by rfl) (hpl : (backTo pos (starEach es X.env)).any (·.1) = false := by rfl) : DE X W (.Call (.Name x p) (e :: es) [] pos) (dCall op ga) :=
  peI (pe_callTy hc hg hm hv ha hn hdb he hpl) fun σ H Q h => rd_call hd h
/-- a name of the module that stands for a built-in function -/
theorem de_callM {id : String} {x : Str} {r : List V → Hp → VK → Prop} {op : Op} (hc : CallR X (.builtin id) r) (hd : CallD X r op) (hm : X.mg x = some (.builtin id)) (ha : DA X W (e :: es) ga) (hg : Gl X x := by rfl) (hdb : (x == ("__debug__" : Str)) = false := by decide)
    (he : starEach (e :: es) X.env = (false, eval e X.env) :: starEach es X.env := by rfl) (hpl : (backTo pos (starEach es X.env)).any (·.1) = false := by rfl) : DE X W (.Call (.Name x p) (e :: es) [] pos) (dCall op ga) :=
  peI (pe_callBfun hc hg hm ha hdb he hpl) fun σ H Q h => rd_call hd h
theorem reps1 {H : Hp} {mu : List Addr} {vs : List V} {d : D} (r : Reps X.K X.mg H mu vs [d]) : ∃ v, vs = [v] ∧ Rep X.K X.mg H mu v d := by
  cases r with
  | cons h t => cases t; exact ⟨_, rfl, h⟩
theorem reps2 {H : Hp} {mu : List Addr} {vs : List V} {d d2 : D} (r : Reps X.K X.mg H mu vs [d, d2]) : ∃ v v2, vs = [v, v2] ∧ Rep X.K X.mg H mu v d ∧ Rep X.K X.mg H mu v2 d2 := by
  cases r with
  | cons h t => cases t with
    | cons h2 t => cases t; exact ⟨_, _, rfl, h, h2⟩
/-- len -/
def oLen : Op := fun ds S => match ds with
  | [.str z] => if fits z.length then some (.ok (.int z.length) S) else none
  | [d] => (asSeq S d).map fun xs => .ok (.int xs.length) S
  | _ => none
abbrev rLenA (K : PySem.W.Frag) : List V → Hp → VK → Prop := fun xs H Q => (∃ p ys, xs = [.ref p] ∧ (SqL K H p ys ∨ SqT K H p ys) ∧ Q (.int ys.length) H) ∨ (∃ z, xs = [.str z] ∧ z.length ≤ sizeLine ∧ Q (.int z.length) H)
theorem callD_len : CallD X (rLenA X.K) oLen := by
  intro H mu S vs ds res W σ Q s r ho q
  match ds, ho with
  | [d], ho =>
    obtain ⟨v, rfl, rv⟩ := reps1 r
    have seqs : ((asSeq S d).map fun xs => Res.ok (.int xs.length) S) = some res → rLenA X.K [v] H Q := fun ho => by
      obtain ⟨xs, h1, rfl⟩ := Option.map_eq_some_iff.mp ho
      obtain ⟨a, ws, rfl, hq, rw_⟩ := rep_seq s rv h1
      refine .inl ⟨a, ws, rfl, hq, ?_⟩
      rw [rw_.length]
      exact q.val s (.int _)
    cases d <;> first | exact seqs ho | skip
    simp only [oLen] at ho
    split at ho
    · cases ho; cases rv
      exact .inr ⟨_, rfl, fits_ok (by assumption), q.val s (.int _)⟩
    · cases ho
  | d :: d2 :: ds, ho => cases d <;> cases ho
theorem de_len (hm : X.mg "len" = none) (ha : DA X W (e :: es) ga) (hg : Gl X "len" := by rfl) (he : starEach (e :: es) X.env = (false, eval e X.env) :: starEach es X.env := by rfl) (hpl : (backTo pos (starEach es X.env)).any (·.1) = false := by rfl) :
    DE X W (.Call (.Name "len" p) (e :: es) [] pos) (dCall oLen ga) := de_callB (call_len_seq.or call_len_str) callD_len PySem.boot_len hm ha hg (by decide) (by decide) he hpl
/-- gcd -/
def oGcd : Op := fun ds S => match ds with
  | [.int a, .int b] => some (.ok (.int ((Nat.gcd a.natAbs b.natAbs : Nat) : Int)) S)
  | _ => none
theorem callD_gcd : CallD X rGcd oGcd := by
  intro H mu S vs ds res W σ Q s r ho q
  unfold oGcd at ho
  split at ho
  · cases ho
    obtain ⟨v, v2, rfl, r1, r2⟩ := reps2 r
    cases r1; cases r2
    exact ⟨_, _, rfl, q.val s (.int _)⟩
  · cases ho
/-- all, any of a list of truth values -/
def bools : List D → Option (List Bool)
  | [] => some []
  | .bl b :: ds => (bools ds).map (b :: ·)
  | _ :: _ => none
theorem bools_ok {H : Hp} {mu : List Addr} : ∀ {vs : List V} {ds : List D} {bs : List Bool}, Reps X.K X.mg H mu vs ds → bools ds = some bs → vs = bs.map V.bl
  | _, _, _, .nil, h => by cases h; rfl
  | _, _, bs, .cons (d := d) (ds := ds) r t, h => by
    cases d <;> try (cases h; done)
    simp only [bools] at h
    obtain ⟨cs, h1, rfl⟩ := Option.map_eq_some_iff.mp h
    cases r
    rw [bools_ok t h1]
    rfl
def oAll : Op := fun ds S => match ds with
  | [d] => ((asList S d).bind bools).map fun bs => .ok (.bl (bs.all id)) S
  | _ => none
def oAny : Op := fun ds S => match ds with
  | [d] => ((asList S d).bind bools).map fun bs => .ok (.bl (bs.any id)) S
  | _ => none
theorem bind_two {α β : Type} {o : Option α} {f : α → Option β} {b : β} (h : o.bind f = some b) : ∃ a, o = some a ∧ f a = some b := by
  cases o with
  | none => cases h
  | some a => exact ⟨a, rfl, h⟩
theorem callD_all : CallD X (rAll X.K) oAll := by
  intro H mu S vs ds res W σ Q s r ho q
  match ds, ho with
  | [d], ho =>
    obtain ⟨v, rfl, rv⟩ := reps1 r
    obtain ⟨bs, h1, rfl⟩ := Option.map_eq_some_iff.mp ho
    obtain ⟨xs, h2, h3⟩ := bind_two h1
    obtain ⟨a, ws, rfl, hq, rw_⟩ := rep_list s rv h2
    have e := bools_ok rw_ h3
    subst e
    exact ⟨a, bs, rfl, .of hq, q.val s (.bl _)⟩
theorem callD_any : CallD X (rAny X.K) oAny := by
  intro H mu S vs ds res W σ Q s r ho q
  match ds, ho with
  | [d], ho =>
    obtain ⟨v, rfl, rv⟩ := reps1 r
    obtain ⟨bs, h1, rfl⟩ := Option.map_eq_some_iff.mp ho
    obtain ⟨xs, h2, h3⟩ := bind_two h1
    obtain ⟨a, ws, rfl, hq, rw_⟩ := rep_list s rv h2
    have e := bools_ok rw_ h3
    subst e
    exact ⟨a, bs, rfl, .of hq, q.val s (.bl _)⟩
/-- sum of a list, max and min of two, int(), list(), tuple() -/
def intsD : List D → Option (List Int)
  | [] => some []
  | .int i :: ds => (intsD ds).map (i :: ·)
  | _ :: _ => none
theorem ints_ok {H : Hp} {mu : List Addr} : ∀ {vs : List V} {ds : List D} {bs : List Int}, Reps X.K X.mg H mu vs ds → intsD ds = some bs → vs = bs.map V.int
  | _, _, _, .nil, h => by cases h; rfl
  | _, _, bs, .cons (d := d) (ds := ds) r t, h => by
    cases d <;> try (cases h; done)
    simp only [intsD] at h
    obtain ⟨cs, h1, rfl⟩ := Option.map_eq_some_iff.mp h
    cases r
    rw [ints_ok t h1]
    rfl
theorem ints_map (ns : List Int) : intsD (ns.map D.int) = some ns := by
  induction ns with
  | nil => rfl
  | cons n ns ih => simp [intsD, ih]
def oMax2 : Op := fun ds S => match ds with
  | [.int i, .int j] => some (.ok (.int (if j > i then j else i)) S)
  | _ => none
def oMin2 : Op := fun ds S => match ds with
  | [.int i, .int j] => some (.ok (.int (if j < i then j else i)) S)
  | _ => none
theorem callD_max2 : CallD X (fun xs H Q => ∃ i j, xs = [.int i, .int j] ∧ Q (.int (if j > i then j else i)) H) oMax2 := by
  intro H mu S vs ds res W σ Q s r ho q
  unfold oMax2 at ho
  split at ho
  · cases ho
    obtain ⟨v, v2, rfl, r1, r2⟩ := reps2 r
    cases r1; cases r2
    exact ⟨_, _, rfl, q.val s (.int _)⟩
  · cases ho
theorem callD_min2 : CallD X (fun xs H Q => ∃ i j, xs = [.int i, .int j] ∧ Q (.int (if j < i then j else i)) H) oMin2 := by
  intro H mu S vs ds res W σ Q s r ho q
  unfold oMin2 at ho
  split at ho
  · cases ho
    obtain ⟨v, v2, rfl, r1, r2⟩ := reps2 r
    cases r1; cases r2
    exact ⟨_, _, rfl, q.val s (.int _)⟩
  · cases ho
def oInt1 : Op := fun ds S => match ds with
  | [.int i] => some (.ok (.int i) S)
  | [.bl k] => some (.ok (.int (if k then 1 else 0)) S)
  | _ => none
theorem callD_int1 : CallD X (fun xs H Q => (∃ i, xs = [.int i] ∧ Q (.int i) H) ∨ ∃ k, xs = [.bl k] ∧ Q (.int (if k then 1 else 0)) H) oInt1 := by
  intro H mu S vs ds res W σ Q s r ho q
  unfold oInt1 at ho
  split at ho
  · cases ho
    obtain ⟨v, rfl, r1⟩ := reps1 r
    cases r1
    exact .inl ⟨_, rfl, q.val s (.int _)⟩
  · cases ho
    obtain ⟨v, rfl, r1⟩ := reps1 r
    cases r1
    exact .inr ⟨_, rfl, q.val s (.int _)⟩
  · cases ho
def oList1 : Op := fun ds S => match ds with
  | [d] => (asSeq S d).map fun xs => .ok (.lst xs) S
  | _ => none
def oListM : Op := fun ds S => match ds with
  | [d] => (asSeq S d).map fun xs => .ok (.ref S.length) (S ++ [xs])
  | _ => none
def oTuple1 : Op := fun ds S => match ds with
  | [.tup xs] => some (.ok (.tup xs) S)
  | [d] => (asList S d).map fun xs => .ok (.tup xs) S
  | _ => none
abbrev rListOf (K : PySem.W.Frag) : List V → Hp → VK → Prop := fun xs H Q => ∃ p ys, xs = [.ref p] ∧ (SqL K H p ys ∨ SqT K H p ys) ∧ ∀ l, H l = none → Q (.ref l) (upd H l (.lst ys))
theorem callD_list1 : CallD X (rListOf X.K) oList1 := by
  intro H mu S vs ds res W σ Q s r ho q
  match ds, ho with
  | [d], ho =>
    obtain ⟨v, rfl, rv⟩ := reps1 r
    obtain ⟨xs, h1, rfl⟩ := Option.map_eq_some_iff.mp ho
    obtain ⟨a, ws, rfl, hq, rw_⟩ := rep_seq s rv h1
    exact ⟨a, ws, rfl, hq, q.lst s rw_⟩
theorem callD_listM : CallD X (rListOf X.K) oListM := by
  intro H mu S vs ds res W σ Q s r ho q
  match ds, ho with
  | [d], ho =>
    obtain ⟨v, rfl, rv⟩ := reps1 r
    obtain ⟨xs, h1, rfl⟩ := Option.map_eq_some_iff.mp ho
    obtain ⟨a, ws, rfl, hq, rw_⟩ := rep_seq s rv h1
    exact ⟨a, ws, rfl, hq, q.mut s rw_⟩
abbrev rTupleOf (K : PySem.W.Frag) : List V → Hp → VK → Prop := fun xs H Q => ∃ p ys, xs = [.ref p] ∧ ((SqL K H p ys ∧ ∀ l, H l = none → Q (.ref l) (upd H l (.tup ys))) ∨ (SqT K H p ys ∧ Q (.ref p) H))
theorem callD_tuple1 : CallD X (rTupleOf X.K) oTuple1 := by
  intro H mu S vs ds res W σ Q s r ho q
  match ds, ho with
  | [d], ho =>
    obtain ⟨v, rfl, rv⟩ := reps1 r
    have lists : ((asList S d).map fun xs => Res.ok (.tup xs) S) = some res → rTupleOf X.K [v] H Q := fun ho => by
      obtain ⟨xs, h1, rfl⟩ := Option.map_eq_some_iff.mp ho
      obtain ⟨a, ws, rfl, hq, rw_⟩ := rep_list s rv h1
      exact ⟨a, ws, rfl, .inl ⟨.of hq, q.tup s rw_⟩⟩
    cases d <;> first | exact lists ho | skip
    cases ho
    cases rv with
    | tup hq r2 => exact ⟨_, _, rfl, .inr ⟨hq.sq, q.val s (.tup hq r2)⟩⟩
  | d :: d2 :: ds, ho => cases d <;> cases ho
end
end PD
set_option Elab.async false
set_option linter.all false
set_option maxRecDepth 100000
set_option maxHeartbeats 4000000
namespace PD
open PySem PySem.Spec PyProof.Rows L2

/-! ### isinstance, of built-in types -/
def tyName : D → Option String
  | .non => some "NoneType"
  | .bl _ => some "bool"
  | .int _ => some "int"
  | .str _ => some "str"
  | .tup _ => some "tuple"
  | .lst _ => some "list"
  | .ref _ => some "list"
  | .scr _ => some "list"
  | .err .. => none
  | .rng .. => none
  | .cau .. => none
  | .fn _ => none
/-- of which built-in types a value of type t is -/
def isTy (t T : String) : Bool := t == T || (t == "bool" && T == "int")
def goodTy (T : String) : Bool := T == "int" || T == "bool" || T == "str" || T == "tuple" || T == "list"
def names6 : List String := ["NoneType", "bool", "int", "str", "tuple", "list"]
theorem isTy_all : (names6.all fun t => ["int", "bool", "str", "tuple", "list"].all fun T => decide (kitB t T = some (isTy t T))) = true := by decide +kernel
theorem isTy_ok {t T : String} (h1 : t ∈ names6) (h2 : goodTy T = true) : kitB t T = some (isTy t T) := by
  have h := List.all_eq_true.mp (List.all_eq_true.mp isTy_all t h1) T (by
    unfold goodTy at h2
    simp only [Bool.or_eq_true, beq_iff_eq] at h2
    rcases h2 with (((h | h) | h) | h) | h <;> subst h <;> simp)
  exact of_decide_eq_true h
theorem tyName_mem {d : D} {t : String} (h : tyName d = some t) : t ∈ names6 := by
  cases d <;> simp [tyName] at h <;> subst h <;> simp [names6]
section
variable {X : Cx} {W : WX} {a b c e : Expr} {es : List Expr} {fa fb fc : Den} {ga gb : Dens} {pos p p1 p2 : Pos}
theorem rep_ty {H : Hp} {mu : List Addr} {S : Store} {v : V} {d : D} {t : String} (s : StOk X.K X.mg H mu S) (r : Rep X.K X.mg H mu v d) (h : tyName d = some t) : TyX X.K H v (.type t) := by
  cases r with
  | non => cases h; exact .base .non
  | bl b => cases h; exact .base (.bl b)
  | int i => cases h; exact .base (.int i)
  | str x => cases h; exact .base (.str x)
  | tup hq r =>
    cases h
    rcases hq with ⟨hq | ⟨o, hq⟩, _⟩ | ⟨o, its, n, h1, h2, _⟩
    · exact .base (.tup hq)
    · exact .fTuple hq
    · exact .kTuple h1 h2
  | lst hq n r => cases h; exact .base (.lst hq)
  | scr hq =>
    cases h
    rcases hq with ⟨hq | ⟨o, hq⟩, _⟩ | ⟨o, its, n, h1, h2, _⟩
    · exact .base (.lst hq)
    · exact .base (.frz hq)
    · exact .kList h1 h2
  | @ref a k hq =>
    cases h
    have hl : k < S.length := by rw [← s.len]; exact (List.getElem?_eq_some_iff.mp hq).1
    obtain ⟨vs, h1, _⟩ := s.at_ k a _ hq (List.getElem?_eq_getElem hl)
    exact .base (.lst h1)
  | rng hq n => cases h
  | err => cases h
  | cau => cases h
  | fn => cases h
def dIsi (T : String) (f : Den) : Den := fun ρ S => bnd (f ρ S) fun d S1 => (tyName d).map fun t => .ok (.bl (isTy t T)) S1
theorem de_isi {T : Str} {Tn : String} (ha : DE X W a fa) (hm : X.mg "isinstance" = none) (hT : X.mg T = none) (hb : bootBuiltins T = some (.type Tn)) (gT : goodTy Tn = true) (hg : Gl X "isinstance" := by rfl) (hg2 : Gl X T := by rfl)
    (hn : T ≠ "__name__" := by decide) (hdb : (T == ("__debug__" : Str)) = false := by decide) (hs : starEach [a, .Name T p2] X.env = (false, eval a X.env) :: starEach [.Name T p2] X.env := by rfl) :
    DE X W (.Call (.Name "isinstance" p1) [a, .Name T p2] [] pos) (dIsi Tn fa) := by
  refine peI (pe_callB call_isi hg hm (by decide +kernel) (pa_cons ha (pa_cons (pe_bltn (v := .ty Tn) hg2 hT hb rfl hn hdb) pa_nil) hs) (by decide) (by decide) hs (by rfl)) fun σ H Q h => ?_
  obtain ⟨mu, S, ρ, res, s, en, hf, q⟩ := h
  refine rd_bnd s en hf q fun d S1 v H1 m1 x s1 en1 rp h1 q1 => ?_
  obtain ⟨t, ht, rfl⟩ := Option.map_eq_some_iff.mp h1
  exact ⟨v, .ty Tn, .type t, .type Tn, isTy t Tn, rfl, .ty Tn, rep_ty s1 rp ht, kit_ty (isTy_ok (tyName_mem ht) gT), q1.val s1 (.bl _)⟩

/-! ### a def's denotation -/
section
variable (K : PySem.W.Frag) (mg : Str → Option Value)
def PostF (H : Hp) (mu : List Addr) (Q : VK) (E : XK) : Res → Prop
  | .ok d S' => ∀ (v : V) (H' : Hp) (mu' : List Addr), Ext H mu H' mu' → StOk K mg H' mu' S' → Rep K mg H' mu' v d → Q v H'
  | .exc c ns xs S' => ∀ (C dx : Addr) (vs : List V) (H' : Hp), Ext H mu H' mu → StOk K mg H' mu S' → mg c = some (.ref C) → H' dx = some (.xd (ns.zip vs)) → dx ∉ mu → ns.length = vs.length → Reps K mg H' mu vs xs → E (.ref C) (some dx) H'
/-- a def keeps the denotation F, of n arguments -/
def spD (n : Nat) (F : Op) : Sp := fun vs H Q E => vs.length = n ∧ ∃ mu S ds r, StOk K mg H mu S ∧ Reps K mg H mu vs ds ∧ F ds S = some r ∧ PostF K mg H mu Q E r
end
abbrev FnD (P : Program) (w : World) (K : PySem.W.Frag) (mg : Str → Option Value) (base : Heap) (k : Nat) (f : Addr) (fd : FuncData) (ps : List Str) (F : Op) : Prop := FnOk P w K mg base (L2N.CX P w) k f fd ps (spD K mg ps.length F)
theorem spD_of {n : Nat} {F : Op} {H : Hp} {mu : List Addr} {S : Store} {vs : List V} {ds : List D} {res : Res} {σ : L2.St} {Q : VK} (s : StOk X.K X.mg H mu S) (r : Reps X.K X.mg H mu vs ds) (hl : ds.length = n) (h : F ds S = some res) (q : Post X.K X.mg W σ H mu Q res) :
    spD X.K X.mg n F vs H Q (WE W σ) := by
  refine ⟨r.length.trans hl, mu, S, ds, res, s, r, h, ?_⟩
  cases res with
  | ok d S' => exact q
  | exc c ns xs S' => exact fun C dx vs H' x s' hm hd hn hl rp => q C dx vs H' mu x s' hm hd hn hl rp
/-- a call of n arguments -/
def dFn (n : Nat) (F : Op) (g : Dens) : Den := fun ρ S => bndl (g ρ S) fun ds S1 => if ds.length = n then F ds S1 else none
theorem de_call {k : Nat} {f : Addr} {fd : FuncData} {ps : List Str} {F : Op} {x : Str} (G : FnD X.prog X.w X.K X.mg X.base k f fd ps F) (hr : Room k X.A) (tk : L2N.Takes X W) (hm : X.mg x = some (.ref f)) (hk : PySem.W.keepIn X.K (.ref f) = true) (hb : Binds X.K fd ps [])
    (ha : DA X W (e :: es) ga) (hg : Gl X x := by rfl) (hdb : (x == ("__debug__" : Str)) = false := by decide) (he : starEach (e :: es) X.env = (false, eval e X.env) :: starEach es X.env := by rfl) (hpl : (backTo pos (starEach es X.env)).any (·.1) = false := by rfl) :
    DE X W (.Call (.Name x p) (e :: es) [] pos) (dFn ps.length F ga) := by
  refine peI (pe_callSD (E := WE W) (dvs := []) G hr hg hm hk hb .nil (fun σ => L2N.passAt tk σ) ha hdb he hpl) fun σ H Q h => ?_
  obtain ⟨mu, S, ρ, res, s, en, hf, q⟩ := h
  refine rds_bndl s en hf q fun ds S1 vs H1 m1 x s1 en1 rp h1 q1 => ?_
  split at h1
  · rename_i hl
    rw [List.append_nil]
    exact spD_of s1 rp hl h1 q1
  · cases h1
/-- a call with keywords: pos the places in the parameters of the values as written -/
def permL {α : Type} (ix : List Nat) (xs : List α) : List α := ix.filterMap fun i => xs[i]?

/-! ### what a def gives back: the lists that it made are frozen -/
mutual
def mapRef (g : Nat → Option D) : D → Option D
  | .tup xs => (mapRefs g xs).map .tup
  | .lst xs => (mapRefs g xs).map .lst
  | .ref k => g k
  | .err c ns xs => (mapRefs g xs).map (.err c ns)
  | .non => some .non
  | .bl b => some (.bl b)
  | .int i => some (.int i)
  | .str s => some (.str s)
  | .scr ns => some (.scr ns)
  | .rng lo hi => some (.rng lo hi)
  | .cau .. => none
  | .fn x => some (.fn x)
def mapRefs (g : Nat → Option D) : List D → Option (List D)
  | [] => some []
  | x :: xs => match mapRef g x, mapRefs g xs with
    | some y, some ys => some (y :: ys)
    | _, _ => none
end
def fzg (S : Store) (n0 : Nat) : Nat → Nat → Option D
  | 0, k => if k < n0 then some (.ref k) else none
  | j + 1, k => if k < n0 then some (.ref k) else match S[k]? with
    | some xs => (mapRefs (fzg S n0 j) xs).map .lst
    | none => none
def fz (S : Store) (n0 : Nat) (d : D) : Option D := mapRef (fzg S n0 3) d
def fzs (S : Store) (n0 : Nat) (d : List D) : Option (List D) := mapRefs (fzg S n0 3) d
section
variable {K : PySem.W.Frag} {mg : Str → Option Value} {H H1 : Hp} {mu m1 : List Addr} {S S1 : Store}
theorem pre_notin (p : mu <+: m1) {a : Addr} (h : a ∉ m1) : a ∉ mu := fun z => h (p.subset z)
theorem sub_notin (p : mu ⊆ m1) {a : Addr} (h : a ∉ m1) : a ∉ mu := fun z => h (p z)
theorem SqTm.less (p : mu ⊆ m1) {a : Addr} {vs : List V} (h : SqTm K H m1 a vs) : SqTm K H mu a vs := h.elim (fun z => .inl ⟨z.1, sub_notin p z.2⟩) .inr
theorem SqLm.less (p : mu ⊆ m1) {a : Addr} {vs : List V} (h : SqLm K H m1 a vs) : SqLm K H mu a vs := h.elim (fun z => .inl ⟨z.1, sub_notin p z.2⟩) .inr
mutual
theorem rep_map {g : Nat → Option D} (p : mu ⊆ m1) (hg : ∀ a k d', m1[k]? = some a → g k = some d' → Rep K mg H mu (.ref a) d') : ∀ {v : V} {d d' : D}, Rep K mg H m1 v d → mapRef g d = some d' → Rep K mg H mu v d'
  | _, _, _, .non, h => by simp only [mapRef] at h; cases h; exact .non
  | _, _, _, .bl b, h => by simp only [mapRef] at h; cases h; exact .bl b
  | _, _, _, .int i, h => by simp only [mapRef] at h; cases h; exact .int i
  | _, _, _, .str i, h => by simp only [mapRef] at h; cases h; exact .str i
  | _, _, _, .tup hq r, h => by
    simp only [mapRef] at h
    obtain ⟨ys, h1, rfl⟩ := Option.map_eq_some_iff.mp h
    exact .tup (hq.less p) (reps_map p hg r h1)
  | _, _, _, .lst hq hn r, h => by
    simp only [mapRef] at h
    obtain ⟨ys, h1, rfl⟩ := Option.map_eq_some_iff.mp h
    exact .lst hq (sub_notin p hn) (reps_map p hg r h1)
  | _, _, _, .scr hq, h => by simp only [mapRef] at h; cases h; exact .scr (hq.less p)
  | _, _, _, .ref hq, h => by simp only [mapRef] at h; exact hg _ _ _ hq h
  | _, _, _, .err hm he hd n1 n2 l r, h => by
    simp only [mapRef] at h
    obtain ⟨ys, h1, rfl⟩ := Option.map_eq_some_iff.mp h
    exact .err hm he hd (sub_notin p n1) (sub_notin p n2) l (reps_map p hg r h1)
  | _, _, _, .rng hq n, h => by simp only [mapRef] at h; cases h; exact .rng hq (sub_notin p n)
  | _, _, _, .cau .., h => by simp only [mapRef] at h; cases h
  | _, _, _, .fn hm, h => by simp only [mapRef] at h; cases h; exact .fn hm
theorem reps_map {g : Nat → Option D} (p : mu ⊆ m1) (hg : ∀ a k d', m1[k]? = some a → g k = some d' → Rep K mg H mu (.ref a) d') : ∀ {vs : List V} {ds ds' : List D}, Reps K mg H m1 vs ds → mapRefs g ds = some ds' → Reps K mg H mu vs ds'
  | _, _, _, .nil, h => by simp only [mapRefs] at h; cases h; exact .nil
  | _, _, ds', .cons (d := d) (ds := ds) r t, h => by
    simp only [mapRefs] at h
    cases e1 : mapRef g d with
    | none => rw [e1] at h; cases h
    | some y =>
      cases e2 : mapRefs g ds with
      | none => rw [e1, e2] at h; cases h
      | some zs =>
        rw [e1, e2] at h
        cases h
        exact .cons (rep_map p hg r e1) (reps_map p hg t e2)
end
theorem fzg_ok (s : StOk K mg H m1 S1) (p : mu <+: m1) : ∀ (j : Nat) (a : Addr) (k : Nat) (d' : D), m1[k]? = some a → fzg S1 mu.length j k = some d' → Rep K mg H mu (.ref a) d' := by
  have old : ∀ (a : Addr) (k : Nat), m1[k]? = some a → k < mu.length → Rep K mg H mu (.ref a) (.ref k) := fun a k h hk => by
    refine .ref ?_
    obtain ⟨t, rfl⟩ := p
    rw [List.getElem?_append_left hk] at h
    exact h
  have new : ∀ (a : Addr) (k : Nat), m1[k]? = some a → ¬ k < mu.length → a ∉ mu := fun a k h hk z => by
    obtain ⟨n, hn⟩ := List.getElem?_of_mem z
    have hn1 := prefix_get p hn
    have e := (List.getElem?_inj (List.getElem?_eq_some_iff.mp hn1).1 s.nd).mp (hn1.trans h.symm)
    exact hk (by rw [← e]; exact (List.getElem?_eq_some_iff.mp hn).1)
  intro j
  induction j with
  | zero =>
    intro a k d' h e
    unfold fzg at e
    split at e
    · cases e; exact old a k h (by assumption)
    · cases e
  | succ j ih =>
    intro a k d' h e
    unfold fzg at e
    split at e
    · cases e; exact old a k h (by assumption)
    · rename_i hk
      cases e1 : S1[k]? with
      | none => rw [e1] at e; cases e
      | some xs =>
        rw [e1] at e
        obtain ⟨ys, h1, rfl⟩ := Option.map_eq_some_iff.mp e
        obtain ⟨vs, hv, hr⟩ := s.at_ k a xs h e1
        exact .lst hv (new a k h hk) (reps_map p.subset ih hr h1)
mutual
/-- what was told of the plain value at the entry holds of the value behind it -/
theorem rep_back (p : mu <+: m1) : ∀ {v v0 : V} {d : D}, Rep K mg H1 m1 v d → Rep K mg H mu v0 d → Rep K mg H1 mu v d
  | _, _, _, .non, _ => .non
  | _, _, _, .bl b, _ => .bl b
  | _, _, _, .int i, _ => .int i
  | _, _, _, .str i, _ => .str i
  | _, _, _, .tup hq r, .tup _ r0 => .tup (hq.less p.subset) (reps_back p r r0)
  | _, _, _, .lst hq hn r, .lst _ _ r0 => .lst hq (pre_notin p hn) (reps_back p r r0)
  | _, _, _, .scr hq, _ => .scr (hq.less p.subset)
  | _, _, _, .rng hq n, _ => .rng hq (pre_notin p n)
  | _, _, _, .ref (n := n) hq, .ref h0 => .ref (by
    obtain ⟨t, rfl⟩ := p
    rw [List.getElem?_append_left (List.getElem?_eq_some_iff.mp h0).1] at hq
    exact hq)
  | _, _, _, .err hm he hd n1 n2 l r, .err _ _ _ _ _ _ r0 => .err hm he hd (pre_notin p n1) (pre_notin p n2) l (reps_back p r r0)
  | _, _, _, .cau hm hd n2 l r, .cau _ _ _ _ r0 => .cau hm hd (pre_notin p n2) l (reps_back p r r0)
  | _, _, _, .fn hm, _ => .fn hm
theorem reps_back (p : mu <+: m1) : ∀ {vs ws : List V} {ds : List D}, Reps K mg H1 m1 vs ds → Reps K mg H mu ws ds → Reps K mg H1 mu vs ds
  | _, _, _, .nil, _ => .nil
  | _, _, _, .cons r t, .cons r0 t0 => .cons (rep_back p r r0) (reps_back p t t0)
end
/-- several lists, what they hold mapped -/
def mapRefss (g : Nat → Option D) : List (List D) → Option (List (List D))
  | [] => some []
  | x :: xs => match mapRefs g x, mapRefss g xs with
    | some y, some ys => some (y :: ys)
    | _, _ => none
theorem mapRefss_get {g : Nat → Option D} : ∀ {xs ys : List (List D)} {n : Nat} {y : List D}, mapRefss g xs = some ys → ys[n]? = some y → ∃ x, xs[n]? = some x ∧ mapRefs g x = some y
  | [], ys, n, y, h, e => by simp only [mapRefss] at h; cases h; simp at e
  | x :: xs, ys, n, y, h, e => by
    simp only [mapRefss] at h
    cases e1 : mapRefs g x with
    | none => rw [e1] at h; cases h
    | some y1 =>
      cases e2 : mapRefss g xs with
      | none => rw [e1, e2] at h; cases h
      | some zs =>
        rw [e1, e2] at h
        cases h
        cases n with
        | zero => simp at e; subst e; exact ⟨x, rfl, e1⟩
        | succ n => simp at e; obtain ⟨z, h1, h2⟩ := mapRefss_get e2 e; exact ⟨z, by simpa using h1, h2⟩
theorem mapRefss_len {g : Nat → Option D} : ∀ {xs ys : List (List D)}, mapRefss g xs = some ys → ys.length = xs.length
  | [], ys, h => by simp only [mapRefss] at h; cases h; rfl
  | x :: xs, ys, h => by
    simp only [mapRefss] at h
    cases e1 : mapRefs g x with
    | none => rw [e1] at h; cases h
    | some y1 =>
      cases e2 : mapRefss g xs with
      | none => rw [e1, e2] at h; cases h
      | some zs => rw [e1, e2] at h; cases h; simp [mapRefss_len e2]
/-- the store from without, behind a def: what its lists hold frozen -/
def finS (n0 : Nat) (S1 : Store) : Option Store := mapRefss (fzg S1 n0 3) (S1.take n0)
theorem st_fin {T : Store} (s0 : StOk K mg H mu S) (s1 : StOk K mg H1 m1 S1) (x : Ext H mu H1 m1) (h : finS mu.length S1 = some T) : StOk K mg H1 mu T := by
  have ll : mu.length ≤ S1.length := by rw [← s1.len]; exact x.pre.length_le
  refine ⟨s0.nd, by have := mapRefss_len h; rw [List.length_take] at this; omega, fun n a ds h1 h2 => ?_⟩
  obtain ⟨xs, h3, h4⟩ := mapRefss_get h h2
  have hn : n < mu.length := (List.getElem?_eq_some_iff.mp h1).1
  rw [List.getElem?_take_of_lt hn] at h3
  obtain ⟨vs, hv, hr⟩ := s1.at_ n a xs (prefix_get x.pre h1) h3
  exact ⟨vs, hv, reps_map x.pre.subset (fzg_ok s1 x.pre 3) hr h4⟩
theorem ext_less (x : Ext H mu H1 m1) : Ext H mu H1 mu := ⟨List.prefix_refl _, x.keep, fun _ h n => absurd h n⟩
theorem st_less (s0 : StOk K mg H mu S) (s1 : StOk K mg H1 m1 S1) (x : Ext H mu H1 m1) (h : S1.take S.length = S) : StOk K mg H1 mu S := by
  refine ⟨s0.nd, s0.len, fun n a ds h1 h2 => ?_⟩
  have h3 : S1[n]? = some ds := by
    have hn : n < S.length := (List.getElem?_eq_some_iff.mp h2).1
    rw [← h, List.getElem?_take_of_lt hn] at h2
    exact h2
  obtain ⟨vs, hv, hr⟩ := s1.at_ n a ds (prefix_get x.pre h1) h3
  obtain ⟨ws, _, hr0⟩ := s0.at_ n a ds h1 h2
  exact ⟨vs, hv, reps_back x.pre hr hr0⟩
end
end

/-! ### statements -/
inductive SRes where
  | nx (ρ : EnvD) (S : Store)
  | rt (d : D) (S : Store)
  | bk (ρ : EnvD) (S : Store)
  | ct (ρ : EnvD) (S : Store)
  | exc (c : Str) (ns : List Str) (xs : List D) (ρ : EnvD) (S : Store)
abbrev SDen := EnvD → Store → Option SRes
section
variable (K : PySem.W.Frag) (mg : Str → Option Value) (W : WX)
def PostN (H : Hp) (mu : List Addr) (nx : L2.St → Hp → Prop) (ρ' : EnvD) (S' : Store) : Prop :=
  ∀ (σ' : L2.St) (H' : Hp) (mu' : List Addr), Ext H mu H' mu' → StOk K mg H' mu' S' → EnvOk K mg H' mu' σ' ρ' → nx σ' H'
def PostS (D : Ends) (H : Hp) (mu : List Addr) : SRes → Prop
  | .nx ρ' S' => PostN K mg H mu D.nx ρ' S'
  | .bk ρ' S' => PostN K mg H mu D.bk ρ' S'
  | .ct ρ' S' => PostN K mg H mu D.ct ρ' S'
  | .rt d S' => PostV K mg H mu D.rt d S'
  | .exc c ns xs ρ' S' => ∀ σ' : L2.St, ∀ (H' : Hp) (mu' : List Addr), Ext H mu H' mu' → EnvOk K mg H' mu' σ' ρ' → PostX K mg W σ' H' mu' c ns xs S'
def rdS (g : SDen) : TS := fun D σ H => ∃ mu S ρ r, StOk K mg H mu S ∧ EnvOk K mg H mu σ ρ ∧ g ρ S = some r ∧ PostS K mg W D H mu r
end
theorem PostN.mono {K : PySem.W.Frag} {mg : Str → Option Value} {H H1 : Hp} {mu m1 : List Addr} {nx : L2.St → Hp → Prop} {ρ : EnvD} {S : Store} (x : Ext H mu H1 m1) (p : PostN K mg H mu nx ρ S) : PostN K mg H1 m1 nx ρ S := fun σ' H' mu' y => p σ' H' mu' (x.trans y)
theorem PostS.mono {K : PySem.W.Frag} {mg : Str → Option Value} {W : WX} {D : Ends} {H H1 : Hp} {mu m1 : List Addr} {r : SRes} (x : Ext H mu H1 m1) (p : PostS K mg W D H mu r) : PostS K mg W D H1 m1 r := by
  cases r with
  | nx ρ S => exact PostN.mono x p
  | bk ρ S => exact PostN.mono x p
  | ct ρ S => exact PostN.mono x p
  | rt d S => exact PostV.mono x p
  | exc c ns xs ρ S => exact fun σ' H' mu' y => p σ' H' mu' (x.trans y)
/-- a statement, a block, denotes g -/
def DS (X : Cx) (W : WX) (st : Stmt) (g : SDen) : Prop := PS X st (rdS X.K X.mg W g)
def DSs (X : Cx) (W : WX) (st : List Stmt) (g : SDen) : Prop := PSs X st (rdS X.K X.mg W g)
def bndS (o : Option Res) (ρ : EnvD) (k : D → Store → Option SRes) : Option SRes := match o with
  | some (.ok d S) => k d S
  | some (.exc c ns xs S) => some (.exc c ns xs ρ S)
  | none => none
@[simp] theorem bndS_ok (d : D) (S : Store) (ρ : EnvD) (k : D → Store → Option SRes) : bndS (some (.ok d S)) ρ k = k d S := rfl
@[simp] theorem bndS_exc (c : Str) (ns : List Str) (xs : List D) (S : Store) (ρ : EnvD) (k : D → Store → Option SRes) : bndS (some (.exc c ns xs S)) ρ k = some (.exc c ns xs ρ S) := rfl
@[simp] theorem bndS_none (ρ : EnvD) (k : D → Store → Option SRes) : bndS none ρ k = none := rfl
section
variable {K : PySem.W.Frag} {mg : Str → Option Value} {W : WX} {H : Hp} {mu : List Addr} {σ : L2.St} {ρ : EnvD} {S : Store} {r : SRes}
/-- an expression, then more of a statement -/
theorem rd_bndS {f : Den} {k : D → Store → Option SRes} {D0 : Ends} {Q' : VK} (s : StOk K mg H mu S) (en : EnvOk K mg H mu σ ρ) (h : bndS (f ρ S) ρ k = some r) (q : PostS K mg W D0 H mu r)
    (hk : ∀ d S1 v H1 m1, Ext H mu H1 m1 → StOk K mg H1 m1 S1 → EnvOk K mg H1 m1 σ ρ → Rep K mg H1 m1 v d → k d S1 = some r → PostS K mg W D0 H1 m1 r → Q' v H1) : rd K mg W f σ H Q' := by
  cases e : f ρ S with
  | none => rw [e] at h; cases h
  | some r1 =>
    rw [e] at h
    cases r1 with
    | ok d S1 => exact ⟨mu, S, ρ, _, s, en, e, fun v H1 m1 x s1 rp => hk d S1 v H1 m1 x s1 (en.mono x) rp h (q.mono x)⟩
    | exc c ns xs S1 =>
      have hr : r = .exc c ns xs ρ S1 := (Option.some.inj h).symm
      subst hr
      exact ⟨mu, S, ρ, _, s, en, e, q σ H mu (Ext.refl _ _) en⟩
theorem rds_bndS {f : Dens} {k : List D → Store → Option SRes} {D0 : Ends} {Q' : List V → Hp → Prop} (s : StOk K mg H mu S) (en : EnvOk K mg H mu σ ρ)
    (h : (match f ρ S with | some (.ok d S1) => k d S1 | some (.exc c ns xs S1) => some (.exc c ns xs ρ S1) | none => none) = some r) (q : PostS K mg W D0 H mu r)
    (hk : ∀ d S1 v H1 m1, Ext H mu H1 m1 → StOk K mg H1 m1 S1 → EnvOk K mg H1 m1 σ ρ → Reps K mg H1 m1 v d → k d S1 = some r → PostS K mg W D0 H1 m1 r → Q' v H1) : rds K mg W f σ H Q' := by
  cases e : f ρ S with
  | none => rw [e] at h; cases h
  | some r1 =>
    rw [e] at h
    cases r1 with
    | ok d S1 => exact ⟨mu, S, ρ, _, s, en, e, fun v H1 m1 x s1 rp => hk d S1 v H1 m1 x s1 (en.mono x) rp h (q.mono x)⟩
    | exc c ns xs S1 =>
      have hr : r = .exc c ns xs ρ S1 := (Option.some.inj h).symm
      subst hr
      exact ⟨mu, S, ρ, _, s, en, e, q σ H mu (Ext.refl _ _) en⟩
end

open Classical in
/-- a def's end: what it made and still could change is frozen; of what it was handed the lists may have been changed -/
noncomputable def fin (S : Store) : Option SRes → Option Res
  | some (.rt d S1) => if S1.take S.length = S then (fz S1 S.length d).map fun d' => .ok d' S else (finS S.length S1).bind fun T => (fz S1 S.length d).map fun d' => .ok d' T
  | some (.nx _ S1) => if S1.take S.length = S then some (.ok .non S) else (finS S.length S1).map fun T => .ok .non T
  | some (.exc c ns xs _ S1) => if S1.take S.length = S then (fzs S1 S.length xs).map fun xs' => .exc c ns xs' S else (finS S.length S1).bind fun T => (fzs S1 S.length xs).map fun xs' => .exc c ns xs' T
  | _ => none
def startD (N : List Str) (ds : List D) : EnvD := ds.map some ++ List.replicate (N.length - ds.length) none
noncomputable def fnOf (N : List Str) (g : SDen) : Op := fun ds S => fin S (g (startD N ds) S)
theorem start_ok {K : PySem.W.Frag} {mg : Str → Option Value} {H : Hp} {mu : List Addr} (N : List Str) {vs : List V} {ds : List D} (r : Reps K mg H mu vs ds) : EnvOk K mg H mu (start N vs) (startD N ds) := by
  have hl := r.length
  refine ⟨by simp [L2.start, startD, hl], fun i d h => ?_⟩
  unfold startD at h
  by_cases hi : i < ds.length
  · rw [List.getElem?_append_left (by simpa using hi), List.getElem?_map] at h
    cases e : ds[i]? with
    | none => rw [e] at h; cases h
    | some d' =>
      rw [e] at h
      cases h
      obtain ⟨v, h1, h2⟩ := r.get e
      refine ⟨v, ?_, h2⟩
      unfold L2.start
      rw [List.getElem?_append_left (by rw [List.length_map, hl]; exact hi), List.getElem?_map, h1]
      rfl
  · rw [List.getElem?_append_right (by simpa using hi), List.getElem?_replicate] at h
    split at h <;> cases h
/-- what a def's promise asks is what its body's denotation does -/
theorem den_end {K : PySem.W.Frag} {mg : Str → Option Value} {N ps : List Str} {g : SDen} {vs : List V} {H : Hp} {Q : VK} {E : XK} (h : spD K mg ps.length (fnOf N g) vs H Q E) : rdS K mg (fun cls d _ H => E cls d H) g { nx := fun _ H' => Q .non H', rt := Q } (start N vs) H := by
  obtain ⟨hl, mu, S, ds, r, st, rp, hF, q⟩ := h
  unfold fnOf at hF
  cases e : g (startD N ds) S with
  | none => rw [e] at hF; cases hF
  | some r1 =>
    rw [e] at hF
    refine ⟨mu, S, startD N ds, r1, st, start_ok N rp, e, ?_⟩
    have fzok : ∀ {H1 : Hp} {m1 : List Addr} {S1 : Store} {v : V} {d d' : D}, Ext H mu H1 m1 → StOk K mg H1 m1 S1 → Rep K mg H1 m1 v d → fz S1 S.length d = some d' → Rep K mg H1 mu v d' := fun x s1 r h => by
      rw [← st.len] at h
      exact rep_map x.pre.subset (fzg_ok s1 x.pre 3) r h
    have fzsok : ∀ {H1 : Hp} {m1 : List Addr} {S1 : Store} {v : List V} {d d' : List D}, Ext H mu H1 m1 → StOk K mg H1 m1 S1 → Reps K mg H1 m1 v d → fzs S1 S.length d = some d' → Reps K mg H1 mu v d' := fun x s1 r h => by
      rw [← st.len] at h
      exact reps_map x.pre.subset (fzg_ok s1 x.pre 3) r h
    have sfin : ∀ {H1 : Hp} {m1 : List Addr} {S1 T : Store}, Ext H mu H1 m1 → StOk K mg H1 m1 S1 → finS S.length S1 = some T → StOk K mg H1 mu T := fun x s1 h => by
      rw [← st.len] at h
      exact st_fin st s1 x h
    cases r1 with
    | nx ρ1 S1 =>
      simp only [fin] at hF
      split at hF
      · rename_i ht
        cases hF
        exact fun σ' H' m' x s1 en1 => q .non H' mu (ext_less x) (st_less st s1 x ht) .non
      · obtain ⟨T, ht, rfl⟩ := Option.map_eq_some_iff.mp hF
        exact fun σ' H' m' x s1 en1 => q .non H' mu (ext_less x) (sfin x s1 ht) .non
    | rt d S1 =>
      simp only [fin] at hF
      split at hF
      · rename_i ht
        obtain ⟨d', h1, rfl⟩ := Option.map_eq_some_iff.mp hF
        exact fun v H' m' x s1 r1 => q v H' mu (ext_less x) (st_less st s1 x ht) (fzok x s1 r1 h1)
      · obtain ⟨T, ht, h2⟩ := Option.bind_eq_some_iff.mp hF
        obtain ⟨d', h1, rfl⟩ := Option.map_eq_some_iff.mp h2
        exact fun v H' m' x s1 r1 => q v H' mu (ext_less x) (sfin x s1 ht) (fzok x s1 r1 h1)
    | exc c ns xs ρ1 S1 =>
      simp only [fin] at hF
      split at hF
      · rename_i ht
        obtain ⟨xs', h1, rfl⟩ := Option.map_eq_some_iff.mp hF
        intro σ' H' m' x en1 C dx ws H2 m2 x2 s2 hm hd hn hl2 r2
        have x3 := x.trans x2
        exact q C dx ws H2 (ext_less x3) (st_less st s2 x3 ht) hm hd (pre_notin x3.pre hn) hl2 (fzsok x3 s2 r2 h1)
      · obtain ⟨T, ht, h2⟩ := Option.bind_eq_some_iff.mp hF
        obtain ⟨xs', h1, rfl⟩ := Option.map_eq_some_iff.mp h2
        intro σ' H' m' x en1 C dx ws H2 m2 x2 s2 hm hd hn hl2 r2
        have x3 := x.trans x2
        exact q C dx ws H2 (ext_less x3) (sfin x3 s2 ht) hm hd (pre_notin x3.pre hn) hl2 (fzsok x3 s2 r2 h1)
    | bk _ _ => cases hF
    | ct _ _ => cases hF
section
variable {P : Program} {w : World} {K : PySem.W.Frag} {mg : Str → Option Value} {base : Heap} {x qual : Str} {params : Arguments} {body : List Stmt} {scope : Scope} {dvs : List V} {kws : List (Str × V)} {f : Addr} {fd : FuncData}
/-- THE RULE for a def: its body's denotation is its own -/
theorem fn_den {N ps : List Str} {k : Nat} {g : SDen} (F : FunD K x qual params body scope dvs kws f fd) (Sc : FnScope N ps scope)
    (hb : ∀ (cdv : Value) (A : Around) (outer : List Env) (s : Shared) (H : Hp) (E : XK), Room k (A.deeper (envOfC qual scope s.heap.objs.size f cdv)) →
      L2N.Takes (cxOf (L2N.CX P w) P w K mg base N qual scope f cdv A outer s H E) (fun cls d _ H => E cls d H) →
      DSs (cxOf (L2N.CX P w) P w K mg base N qual scope f cdv A outer s H E) (fun cls d _ H => E cls d H) body g) : FnD P w K mg base (k + 1) f fd ps (fnOf N g) := by
  exact F.ok Sc (fun vs H Q E h => h.1) fun cdv A outer s H vs Q E hr h => ⟨_, hb cdv A outer s H E hr (L2N.takes_of rfl rfl rfl rfl), den_end h⟩
end
end PD
set_option Elab.async false
set_option linter.all false
set_option maxRecDepth 100000
set_option maxHeartbeats 4000000
namespace PD
open PySem PySem.Spec PyProof.Rows L2
section
variable {X : Cx} {W : WX} {a b c e o i : Expr} {es : List Expr} {fa fb fc : Den} {ga gb : Dens} {pos p p1 p2 : Pos} {st : Stmt} {sts rest : List Stmt} {g h : SDen}

/-! ### blocks -/
def sNil : SDen := fun ρ S => some (.nx ρ S)
def sSeq (g h : SDen) : SDen := fun ρ S => match g ρ S with
  | some (.nx ρ1 S1) => h ρ1 S1
  | r => r
theorem ds_seq_post {D : Ends} {σ : L2.St} {H : Hp} (q : rdS X.K X.mg W (sSeq g h) D σ H) : rdS X.K X.mg W g { D with nx := fun σ' H' => rdS X.K X.mg W h D σ' H' } σ H := by
  obtain ⟨mu, S, ρ, r, s, en, hf, q⟩ := q
  unfold sSeq at hf
  cases e : g ρ S with
  | none => rw [e] at hf; cases hf
  | some r1 =>
    rw [e] at hf
    refine ⟨mu, S, ρ, r1, s, en, e, ?_⟩
    cases r1 with
    | nx ρ1 S1 => exact fun σ' H' mu' x s1 en1 => ⟨mu', S1, ρ1, r, s1, en1, hf, q.mono x⟩
    | rt d S1 => cases hf; exact q
    | bk d S1 => cases hf; exact q
    | ct d S1 => cases hf; exact q
    | exc c ns xs ρ1 S1 => cases hf; exact q
theorem dss_nil : DSs X W [] sNil := by
  refine pssI pss_nil fun D σ H h => ?_
  obtain ⟨mu, S, ρ, r, s, en, hf, q⟩ := h
  cases hf
  exact q σ H mu (Ext.refl _ _) s en
theorem dss_cons (h1 : DS X W st g) (h2 : DSs X W rest h) : DSs X W (st :: rest) (sSeq g h) := pssI (pss_cons h1 h2) fun D σ H q => ds_seq_post q
theorem dss_one (h1 : DS X W st g) : DSs X W [st] g := pss_one h1
theorem ds_pass : DS X W (.Pass pos) sNil := by
  refine psI ps_pass fun D σ H h => ?_
  obtain ⟨mu, S, ρ, r, s, en, hf, q⟩ := h
  cases hf
  exact q σ H mu (Ext.refl _ _) s en
def sBreak : SDen := fun ρ S => some (.bk ρ S)
def sCont : SDen := fun ρ S => some (.ct ρ S)
theorem ds_break : DS X W (.Break pos) sBreak := by
  refine psI ps_break fun D σ H h => ?_
  obtain ⟨mu, S, ρ, r, s, en, hf, q⟩ := h
  cases hf
  exact q σ H mu (Ext.refl _ _) s en
theorem ds_continue : DS X W (.Continue pos) sCont := by
  refine psI ps_continue fun D σ H h => ?_
  obtain ⟨mu, S, ρ, r, s, en, hf, q⟩ := h
  cases hf
  exact q σ H mu (Ext.refl _ _) s en
/-- an expression alone -/
def sExpr (f : Den) : SDen := fun ρ S => bndS (f ρ S) ρ fun _ S1 => some (.nx ρ S1)
theorem ds_expr (ha : DE X W e fa) (hs : swapsWith e none pos.line X.env = pure false := by rfl) : DS X W (.Expr e pos) (sExpr fa) := by
  refine psI (ps_expr ha hs) fun D σ H q => ?_
  obtain ⟨mu, S, ρ, r, s, en, hf, q⟩ := q
  refine rd_bndS s en hf q fun d S1 v H1 m1 x s1 en1 rp h1 q1 => ?_
  cases h1
  exact q1 σ H1 m1 (Ext.refl _ _) s1 en1
def sRet (f : Den) : SDen := fun ρ S => bndS (f ρ S) ρ fun d S1 => some (.rt d S1)
theorem ds_ret (ha : DE X W e fa) : DS X W (.Return (some e) pos) (sRet fa) := by
  refine psI (ps_ret ha) fun D σ H q => ?_
  obtain ⟨mu, S, ρ, r, s, en, hf, q⟩ := q
  refine rd_bndS s en hf q fun d S1 v H1 m1 x s1 en1 rp h1 q1 => ?_
  cases h1
  exact q1 v H1 m1 (Ext.refl _ _) s1 rp
def sRetN : SDen := fun _ S => some (.rt .non S)
theorem ds_retN : DS X W (.Return none pos) sRetN := by
  refine psI ps_retN fun D σ H q => ?_
  obtain ⟨mu, S, ρ, r, s, en, hf, q⟩ := q
  cases hf
  exact q .non H mu (Ext.refl _ _) s .non

/-! ### targets -/
abbrev TDen := D → EnvD → Store → Option EnvD
def rdG (K : PySem.W.Frag) (mg : Str → Option Value) (t : TDen) : TG := fun v σ H Q => ∃ mu S ρ d ρ', StOk K mg H mu S ∧ EnvOk K mg H mu σ ρ ∧ Rep K mg H mu v d ∧ t d ρ S = some ρ' ∧ ∀ σ', EnvOk K mg H mu σ' ρ' → Q σ' H
def rdGs (K : PySem.W.Frag) (mg : Str → Option Value) (t : List D → EnvD → Store → Option EnvD) : TGs := fun vs σ H Q => ∃ mu S ρ ds ρ', StOk K mg H mu S ∧ EnvOk K mg H mu σ ρ ∧ Reps K mg H mu vs ds ∧ t ds ρ S = some ρ' ∧ ∀ σ', EnvOk K mg H mu σ' ρ' → Q σ' H
def DG (X : Cx) (tg : Expr) (t : TDen) : Prop := PG X tg (rdG X.K X.mg t)
def DGs (X : Cx) (tgs : List Expr) (t : List D → EnvD → Store → Option EnvD) : Prop := PGs X tgs (rdGs X.K X.mg t)
theorem pgI {tg : Expr} {t t' : TG} (h : PG X tg t) (i : ∀ v σ H Q, t' v σ H Q → t v σ H Q) : PG X tg t' := ⟨fun pins s σ H v u Q I r q => h.run pins s σ H v u Q I r (i v σ H Q q)⟩
theorem pgsI {tg : List Expr} {t t' : TGs} (h : PGs X tg t) (i : ∀ v σ H Q, t' v σ H Q → t v σ H Q) : PGs X tg t' := ⟨fun pins s σ H v u Q I r q => h.run pins s σ H v u Q I r (i v σ H Q q)⟩
def tName (k : Nat) : TDen := fun d ρ _ => some (ρ.set k (some d))
theorem dg_name (k : Nat) {x : Str} (hN : X.N.Nodup) (hi : X.N[k]? = some x := by rfl) (hx : Loc X.env.scope x := by first | exact .inl rfl | exact .inr rfl) (hf : X.fn x = true ∨ X.env.scope.names.lookup x = some .local := by first | exact .inl rfl | exact .inr rfl) : DG X (.Name x pos) (tName k) := by
  refine pgI (pg_name hN hi hx hf) fun v σ H Q h => ?_
  obtain ⟨mu, S, ρ, d, ρ', s, en, rp, ht, q⟩ := h
  cases ht
  exact q _ (en.set rp k)
def tNil : List D → EnvD → Store → Option EnvD := fun ds ρ _ => match ds with
  | [] => some ρ
  | _ => none
def tCons (t : TDen) (u : List D → EnvD → Store → Option EnvD) : List D → EnvD → Store → Option EnvD := fun ds ρ S => match ds with
  | d :: ds => (t d ρ S).bind fun ρ1 => u ds ρ1 S
  | [] => none
theorem dgs_nil : DGs X [] PD.tNil := by
  refine pgsI pgs_nil fun vs σ H Q h => ?_
  obtain ⟨mu, S, ρ, ds, ρ', s, en, rp, ht, q⟩ := h
  cases rp with
  | nil => cases ht; exact ⟨rfl, q _ en⟩
  | cons _ _ => cases ht
theorem dgs_cons {t : TDen} {u : List D → EnvD → Store → Option EnvD} (h1 : DG X e t) (h2 : DGs X es u) (hs : (assignEach (e :: es) X.env).map (·.2) = assign e X.env :: (assignEach es X.env).map (·.2) := by first | rfl | intros; rfl) : DGs X (e :: es) (PD.tCons t u) := by
  refine pgsI (pgs_cons h1 h2 hs) fun vs σ H Q h => ?_
  obtain ⟨mu, S, ρ, ds, ρ', s, en, rp, ht, q⟩ := h
  cases rp with
  | nil => cases ht
  | cons r rs =>
    obtain ⟨ρ1, h3, h4⟩ := bind_two ht
    exact ⟨_, _, rfl, mu, S, ρ, _, ρ1, s, en, r, h3, fun σ' en' => ⟨mu, S, ρ1, _, ρ', s, en', rs, h4, q⟩⟩
def tTup (n : Nat) (u : List D → EnvD → Store → Option EnvD) : TDen := fun d ρ S => match d with
  | .tup xs => if xs.length = n then u xs ρ S else none
  | _ => none
theorem dg_tup {k n : Nat} {u : List D → EnvD → Store → Option EnvD} (hc : X.calm = true) (h : DGs X es u) (hn : (assignEach es X.env).length = n := by rfl) (hst : (assignEach es X.env).findIdx? (·.1) = none := by rfl) : DG X (.Tuple es k pos) (PD.tTup n u) := by
  refine pgI (pg_tup hc h hn hst) fun v σ H Q h => ?_
  obtain ⟨mu, S, ρ, d, ρ', s, en, rp, ht, q⟩ := h
  unfold PD.tTup at ht
  split at ht
  · split at ht
    · rename_i hl
      cases rp with
      | tup hq rs => exact ⟨_, _, rfl, hq.sq, rs.length.trans hl, mu, S, ρ, _, ρ', s, en, rs, ht, q⟩
    · cases ht
  · cases ht
/-- target = e -/
def sAsg (f : Den) (t : TDen) : SDen := fun ρ S => bndS (f ρ S) ρ fun d S1 => (t d ρ S1).map fun ρ1 => .nx ρ1 S1
theorem asg_post {t : TDen} {D : Ends} {σ : L2.St} {H : Hp} (q : rdS X.K X.mg W (sAsg fa t) D σ H) : tAsg (rd X.K X.mg W fa) (rdG X.K X.mg t) D σ H := by
  obtain ⟨mu, S, ρ, r, s, en, hf, q⟩ := q
  refine rd_bndS s en hf q fun d S1 v H1 m1 x s1 en1 rp h1 q1 => ?_
  obtain ⟨ρ1, h2, rfl⟩ := Option.map_eq_some_iff.mp h1
  exact ⟨m1, S1, ρ, d, ρ1, s1, en1, rp, h2, fun σ' en' => q1 σ' H1 m1 (Ext.refl _ _) s1 en'⟩
theorem ds_asg {tg : Expr} {t : TDen} (ha : DE X W e fa) (hg : DG X tg t) (hs : swapsWithSole [tg] e pos.line X.env = pure false := by rfl) (hw : swappedStores [tg] e X.env = pure none := by rfl) (h1 : (assignEach [tg] X.env).map (·.2) = [assign tg X.env] := by rfl) : DS X W (.Assign [tg] e pos) (sAsg fa t) :=
  psI (ps_asg ha hg hs hw h1) fun D σ H q => asg_post q
def sSet (k : Nat) (f : Den) : SDen := fun ρ S => bndS (f ρ S) ρ fun d S1 => some (.nx (ρ.set k (some d)) S1)
theorem set_post {k : Nat} {D : Ends} {σ : L2.St} {H : Hp} (q : rdS X.K X.mg W (sSet k fa) D σ H) : tAsg (rd X.K X.mg W fa) (gName k) D σ H := by
  obtain ⟨mu, S, ρ, r, s, en, hf, q⟩ := q
  refine rd_bndS s en hf q fun d S1 v H1 m1 x s1 en1 rp h1 q1 => ?_
  cases h1
  exact q1 _ H1 m1 (Ext.refl _ _) s1 (en1.set rp k)
theorem ds_set (k : Nat) {x : Str} {pos' : Pos} (hN : X.N.Nodup) (ha : DE X W e fa) (hi : X.N[k]? = some x := by rfl) (hx : Loc X.env.scope x := by first | exact .inl rfl | exact .inr rfl) (hs : swapsWith e (some (.Name x pos')) pos.line X.env = pure false := by rfl) (hf : X.fn x = true ∨ X.env.scope.names.lookup x = some .local := by first | exact .inl rfl | exact .inr rfl) :
    DS X W (.Assign [.Name x pos'] e pos) (sSet k fa) := psI (ps_set hN hi hx ha hs hf) fun D σ H q => set_post q
/-- x, y = e, e' -/
def sPar (k l : Nat) (g : Dens) : SDen := fun ρ S => match g ρ S with
  | some (.ok [d, d2] S1) => some (.nx ((ρ.set k (some d)).set l (some d2)) S1)
  | some (.ok _ _) => none
  | some (.exc c ns xs S1) => some (.exc c ns xs ρ S1)
  | none => none
theorem ds_par (k l : Nat) {x y : Str} {px py pt : Pos} {kt k2 pt2} (hc : X.calm = true) (hN : X.N.Nodup) (ha : DA X W [a, b] ga) (hi : X.N[k]? = some x := by rfl) (hj : X.N[l]? = some y := by rfl) (hij : k ≠ l := by decide)
    (hx : X.env.scope.names.lookup x = some .local := by rfl) (hy : X.env.scope.names.lookup y = some .local := by rfl) (hw : swappedStores [.Tuple [.Name x px, .Name y py] kt pt] (.Tuple [a, b] k2 pt2) X.env = pure (some [x, y]) := by rfl)
    (hs : swapsWithSole [.Tuple [.Name x px, .Name y py] kt pt] (.Tuple [a, b] k2 pt2) pos.line X.env = pure false := by rfl) :
    DS X W (.Assign [.Tuple [.Name x px, .Name y py] kt pt] (.Tuple [a, b] k2 pt2) pos) (sPar k l ga) := by
  refine psI (ps_par hc hN hi hj hij hx hy ha hw hs) fun D σ H q => ?_
  obtain ⟨mu, S, ρ, r, s, en, hf, q⟩ := q
  unfold sPar at hf
  have hf2 : (match ga ρ S with | some (.ok d S1) => (match d with | [d, d2] => some (.nx ((ρ.set k (some d)).set l (some d2)) S1) | _ => none) | some (.exc c ns xs S1) => some (.exc c ns xs ρ S1) | none => none) = some r := by
    rw [← hf]
    split <;> rename_i e1 <;> rw [e1]
    · split <;> simp_all
  refine rds_bndS s en hf2 q fun ds S1 vs H1 m1 x s1 en1 rp h1 q1 => ?_
  split at h1
  · cases h1
    obtain ⟨v, v2, rfl, r1, r2⟩ := reps2 rp
    exact ⟨v, v2, rfl, q1 _ H1 m1 (Ext.refl _ _) s1 ((en1.set r1 k).set r2 l)⟩
  · cases h1
/-- x = x + e, said shortly, of ints and of texts -/
def sAug (k : Nat) (op : Op2) (f : Den) : SDen := fun ρ S => match ρ[k]? with
  | some (some d0) => bndS (f ρ S) ρ fun d S1 => bndS (op d0 d S1) ρ fun d2 S2 => some (.nx (ρ.set k (some d2)) S2)
  | _ => none
theorem ds_aug (k : Nat) {x : Str} {op : Operator} {ti : TIp} {dop : Op2} {pos' : Pos} (ho : PIp X op ti) (hd : ∀ (H : Hp) (mu : List Addr) (S : Store) (x y : V) (a b d : D) (S' : Store) (Q : VK), StOk X.K X.mg H mu S → Rep X.K X.mg H mu x a → Rep X.K X.mg H mu y b → dop a b S = some (.ok d S') → PostV X.K X.mg H mu Q d S' → ti x y H Q)
    (hno : ∀ a b S c ns xs S', dop a b S ≠ some (.exc c ns xs S')) (hN : X.N.Nodup) (ha : DE X W e fa) (hi : X.N[k]? = some x := by rfl) (hx : Loc X.env.scope x := by first | exact .inl rfl | exact .inr rfl) (hf : X.fn x = true ∨ X.env.scope.names.lookup x = some .local := by first | exact .inl rfl | exact .inr rfl) :
    DS X W (.AugAssign (.Name x pos') op e pos) (sAug k dop fa) := by
  refine psI (ps_aug hN hi hx ha ho hf) fun D σ H q => ?_
  obtain ⟨mu, S, ρ, r, s, en, hf, q⟩ := q
  unfold sAug at hf
  split at hf
  · rename_i d0 hd0
    obtain ⟨v0, h1, h2⟩ := en.at_ k d0 hd0
    refine ⟨v0, h1, rd_bndS s en hf q fun d S1 v H1 m1 x s1 en1 rp h3 q1 => ?_⟩
    cases e1 : dop d0 d S1 with
    | none => rw [e1] at h3; cases h3
    | some r1 =>
      rw [e1] at h3
      cases r1 with
      | exc c ns xs S2 => exact absurd e1 (hno _ _ _ _ _ _ _)
      | ok d2 S2 =>
        cases h3
        exact hd H1 m1 S1 v0 v d0 d d2 S2 _ s1 (h2.mono x) rp e1 fun v' H2 m2 x2 s2 rp2 => q1 _ H2 m2 x2 s2 ((en1.mono x2).set rp2 k)
  · cases hf
theorem ds_augAdd (k : Nat) {x : Str} {pos' : Pos} (hN : X.N.Nodup) (ha : DE X W e fa) (hi : X.N[k]? = some x := by rfl) (hx : Loc X.env.scope x := by first | exact .inl rfl | exact .inr rfl) (hf : X.fn x = true ∨ X.env.scope.names.lookup x = some .local := by first | exact .inl rfl | exact .inr rfl) :
    DS X W (.AugAssign (.Name x pos') .Add e pos) (sAug k oAdd fa) := ds_aug k ip_add (fun H mu S x y a b d S' Q s ra rb h p => by
  cases a <;> cases b <;> try (cases h; done)
  cases h; cases ra; cases rb
  exact ⟨_, _, rfl, rfl, p _ H mu (Ext.refl _ _) s (.int _)⟩) (fun a b S c ns xs S' h => by cases a <;> cases b <;> cases h) hN ha hi hx hf
/-- xs[i] = e, xs a list that may change -/
def sStore (fe fo fi : Den) : SDen := fun ρ S => bndS (fe ρ S) ρ fun d S1 => bndS (fo ρ S1) ρ fun o S2 => bndS (fi ρ S2) ρ fun i S3 => match o, i with
  | .ref n, .int k => (match S3[n]? with
    | some xs => (ixN xs.length k).map fun j => .nx ρ (S3.set n (xs.set j d))
    | none => none)
  | _, _ => none
theorem ds_store (he : DE X W e fa) (ho : DE X W o fb) (hi : DE X W i fc) (hs : swapsWithSole [.Subscript o i p] e pos.line X.env = pure false := by rfl) (hw : swappedStores [.Subscript o i p] e X.env = pure none := by rfl)
    (hpg : ∀ {to ti : TE}, PE X o to → PE X i ti → PG X (.Subscript o i p) (gSub to ti rSetL) := by intro _ _ h1 h2; exact pg_sub h1 h2 set_list) : DS X W (.Assign [.Subscript o i p] e pos) (sStore fa fb fc) := by
  refine psI (ps_asg he (hpg ho hi) hs hw) fun D σ H q => ?_
  obtain ⟨mu, S, ρ, r, s, en, hf, q⟩ := q
  refine rd_bndS s en hf q fun d S1 v H1 m1 x1 s1 en1 rp h1 q1 => ?_
  refine rd_bndS s1 en1 h1 q1 fun od S2 ov H2 m2 x2 s2 en2 rp2 h2 q2 => ?_
  refine rd_bndS s2 en2 h2 q2 fun id S3 iv H3 m3 x3 s3 en3 rp3 h3 q3 => ?_
  split at h3
  · rename_i n k
    split at h3
    · rename_i xs hxs
      obtain ⟨j, hj, rfl⟩ := Option.map_eq_some_iff.mp h3
      cases rp3
      have ro := rp2.mono x3
      cases ro with
      | ref hn =>
        obtain ⟨vs, hv, hr⟩ := s3.at_ n _ xs hn hxs
        refine ⟨_, vs, k, j, rfl, rfl, hv, by rw [hr.length]; exact hj, ?_⟩
        have hm := List.mem_of_getElem? hn
        have xc := Ext.chg (H := H3) (o := .lst (vs.set j v)) hm
        exact q3 σ _ m3 xc (s3.chg hn (((rp.mono x2).mono x3) |> fun z => Reps.set z j hr)) (en3.mono xc)
    · cases h3
  · cases h3
/-- xs.append(e), xs a list that may change -/
def dApp (fo fe : Den) : Den := fun ρ S => bnd (fo ρ S) fun o S1 => match o with
  | .ref n => bnd (fe ρ S1) fun d S2 => (match S2[n]? with
    | some xs => if xs.length < 16777216 then some (.ok .non (S2.set n (xs ++ [d]))) else none
    | none => none)
  | _ => none
theorem de_app (ho : DE X W o fa) (he : DE X W e fb)
    (hpe : ∀ {to : TE} {ta : TA}, PE X o to → PA X [e] ta → PE X (.Call (.Attribute o "append" p1) [e] [] pos) (tBM X.K "list" rAppend to ta) := by intro _ _ h1 h2; exact pe_bm PySem.F.plainAttrs_list PySem.F.slot_list_append PySem.F.type_list_append mt_append h1 h2)
    (hs : starEach [e] X.env = (false, eval e X.env) :: starEach [] X.env := by rfl) : DE X W (.Call (.Attribute o "append" p1) [e] [] pos) (dApp fa fb) := by
  refine peI (hpe ho (pa_cons he pa_nil hs)) fun σ H Q h => ?_
  obtain ⟨mu, S, ρ, res, s, en, hf, q⟩ := h
  refine rd_bnd s en hf q fun od S1 ov H1 m1 x1 s1 en1 rp h1 q1 => ?_
  cases od <;> try (cases h1; done)
  rename_i n
  cases rp with
  | @ref a _ hn =>
    have hl : n < S1.length := by rw [← s1.len]; exact (List.getElem?_eq_some_iff.mp hn).1
    obtain ⟨vs, hv, _⟩ := s1.at_ n a _ hn (List.getElem?_eq_getElem hl)
    refine ⟨.inl ⟨rfl, _, .of hv⟩, ?_⟩
    show rd X.K X.mg W fb σ H1 _
    refine rd_bnd s1 en1 h1 q1 fun d S2 v H2 m2 x2 s2 en2 rp2 h2 q2 => ?_
    split at h2
    · rename_i xs hxs
      split at h2
      · rename_i hz
        cases h2
        have hn2 := prefix_get x2.pre hn
        obtain ⟨ws, hw, hr⟩ := s2.at_ n a xs hn2 hxs
        refine ⟨a, ws, v, rfl, rfl, hw, by rw [hr.length, line_eq]; exact hz, ?_⟩
        have hm := List.mem_of_getElem? hn2
        have xc := Ext.chg (H := H2) (o := .lst (ws ++ [v])) hm
        exact q2 .non _ m2 xc (s2.chg hn2 (hr.append (.single rp2))) .non
      · cases h2
    · cases h2

/-! ### if, while, for -/
def sIf (t : Den) (g h : SDen) : SDen := fun ρ S => match t ρ S with
  | some (.ok (.bl b) S1) => if b then g ρ S1 else h ρ S1
  | some (.exc c ns xs S1) => some (.exc c ns xs ρ S1)
  | _ => none
theorem ds_if (hc : DT X W c fc) (ha : DSs X W sts g) (hb : DSs X W rest h) : DS X W (.If c sts rest pos) (sIf fc g h) := by
  refine psI (ps_if hc ha hb) fun D σ H q => ?_
  obtain ⟨mu, S, ρ, r, s, en, hf, q⟩ := q
  unfold sIf at hf
  split at hf
  · rename_i b S1 e1
    refine ⟨mu, S, ρ, _, s, en, e1, fun H1 m1 x s1 => ?_⟩
    cases b with
    | true => exact iteT ⟨m1, S1, ρ, r, s1, en.mono x, hf, q.mono x⟩
    | false => exact iteF ⟨m1, S1, ρ, r, s1, en.mono x, hf, q.mono x⟩
  · rename_i e1
    cases hf
    exact ⟨mu, S, ρ, _, s, en, e1, q σ H mu (Ext.refl _ _) en⟩
  · cases hf
/-- while, at most n turns -/
def sWhileN (t : Den) (g : SDen) : Nat → SDen
  | 0 => fun _ _ => none
  | n + 1 => fun ρ S => match t ρ S with
    | some (.ok (.bl b) S1) => if b then (match g ρ S1 with
      | some (.nx ρ2 S2) => sWhileN t g n ρ2 S2
      | some (.ct ρ2 S2) => sWhileN t g n ρ2 S2
      | some (.bk ρ2 S2) => some (.nx ρ2 S2)
      | r => r) else some (.nx ρ S1)
    | some (.exc c ns xs S1) => some (.exc c ns xs ρ S1)
    | _ => none
def sWhile (n : Nat) (t : Den) (g : SDen) : SDen := sWhileN t g n
theorem ds_while (n : Nat) (hp : PassesOwn (model X.prog X.w) X.A X.env X.xe) (hc : DT X W c fc) (hb : DSs X W sts g) : DS X W (.While c sts [] pos) (sWhile n fc g) := by
  refine psI (ps_while hp hc hb) fun D σ H q => ?_
  refine ⟨fun m σ H => ∃ mu S ρ r, StOk X.K X.mg H mu S ∧ EnvOk X.K X.mg H mu σ ρ ∧ sWhileN fc g m ρ S = some r ∧ PostS X.K X.mg W D H mu r, ⟨n, q⟩, ?_⟩
  rintro m σ H ⟨mu, S, ρ, r, s, en, hf, q⟩
  cases m with
  | zero => cases hf
  | succ m =>
    unfold sWhileN at hf
    split at hf
    · rename_i b S1 e1
      refine ⟨mu, S, ρ, _, s, en, e1, fun H1 m1 x s1 => ?_⟩
      have en1 := en.mono x
      have q1 := q.mono x
      cases b with
      | false =>
        refine iteF ?_
        cases hf
        exact q1 σ H1 m1 (Ext.refl _ _) s1 en1
      | true =>
        refine iteT ?_
        simp only [if_true] at hf
        cases e2 : g ρ S1 with
        | none => rw [e2] at hf; cases hf
        | some r2 =>
          rw [e2] at hf
          refine ⟨_, fun σ' H' z => z, m1, S1, ρ, r2, s1, en1, e2, ?_⟩
          cases r2 with
          | nx ρ2 S2 => exact fun σ' H' mu' x2 s2 en2 => ⟨m, Nat.lt_succ_self _, mu', S2, ρ2, r, s2, en2, hf, q1.mono x2⟩
          | ct ρ2 S2 => exact fun σ' H' mu' x2 s2 en2 => ⟨m, Nat.lt_succ_self _, mu', S2, ρ2, r, s2, en2, hf, q1.mono x2⟩
          | bk ρ2 S2 => cases hf; exact q1
          | rt d S2 => cases hf; exact q1
          | exc c ns xs ρ2 S2 => cases hf; exact q1
    · rename_i e1
      cases hf
      exact ⟨mu, S, ρ, _, s, en, e1, q σ H mu (Ext.refl _ _) en⟩
    · cases hf
end
end PD
set_option Elab.async false
set_option linter.all false
set_option maxRecDepth 100000
set_option maxHeartbeats 4000000
namespace PD
open PySem PySem.Spec PyProof.Rows L2

/-! ### what is walked -/
/-- the walk J gives just these values, one behind another, while P stands; P stands while the store passes the check -/
structure Walks (K : PySem.W.Frag) (mg : Str → Option Value) (J : It) (P : Hp → List Addr → Store → Prop) (ck : Store → Prop) (items : List D) : Prop where
  mono : ∀ H mu S H' mu' S', P H mu S → Ext H mu H' mu' → ck S' → P H' mu' S'
  has : ∀ H mu S, P H mu S → ck S
  go : ∀ i H mu S, P H mu S → StOk K mg H mu S → i < items.length → J.go i H
  yld : ∀ i H mu x H' S d, P H mu S → StOk K mg H mu S → J.yld i H x H' → items[i]? = some d → Ext H mu H' mu ∧ StOk K mg H' mu S ∧ Rep K mg H' mu x d
  stop : ∀ H mu S, P H mu S → StOk K mg H mu S → J.stop items.length H
/-- what is walked: these values; w: the list that may change, if it is one -/
inductive Ires where
  | ok (items : List D) (w : Option Nat) (S : Store)
  | exc (c : Str) (ns : List Str) (xs : List D) (S : Store)
abbrev Iens := EnvD → Store → Option Ires
def bndi (o : Option Res) (k : D → Store → Option Ires) : Option Ires := match o with
  | some (.ok d S) => k d S
  | some (.exc c ns xs S) => some (.exc c ns xs S)
  | none => none
@[simp] theorem bndi_ok (d : D) (S : Store) (k : D → Store → Option Ires) : bndi (some (.ok d S)) k = k d S := rfl
@[simp] theorem bndi_exc (c : Str) (ns : List Str) (xs : List D) (S : Store) (k : D → Store → Option Ires) : bndi (some (.exc c ns xs S)) k = some (.exc c ns xs S) := rfl
@[simp] theorem bndi_none (k : D → Store → Option Ires) : bndi none k = none := rfl
def ckOf (w : Option Nat) (all : List D) (S : Store) : Prop := match w with
  | none => True
  | some n => S[n]? = some all
@[simp] theorem ckOf_none (all : List D) (S : Store) : ckOf none all S = True := rfl
def PostI (K : PySem.W.Frag) (mg : Str → Option Value) (W : WX) (σ : L2.St) (H : Hp) (mu : List Addr) (R : It → Hp → Prop) : Ires → Prop
  | .ok items w S' => ∀ (J : It) (P : Hp → List Addr → Store → Prop) (H' : Hp) (mu' : List Addr), Walks K mg J P (ckOf w items) items → P H' mu' S' → Ext H mu H' mu' → StOk K mg H' mu' S' → R J H'
  | .exc c ns xs S' => PostX K mg W σ H mu c ns xs S'
def rdI (K : PySem.W.Frag) (mg : Str → Option Value) (W : WX) (f : Iens) : TI := fun σ H R => ∃ mu S ρ r, StOk K mg H mu S ∧ EnvOk K mg H mu σ ρ ∧ f ρ S = some r ∧ PostI K mg W σ H mu R r
def DI (X : Cx) (W : WX) (tg iter : Expr) (f : Iens) : Prop := PI X tg iter (rdI X.K X.mg W f)
theorem piI {X : Cx} {tg iter : Expr} {t t' : TI} (h : PI X tg iter t) (i : ∀ σ H R, t' σ H R → t σ H R) : PI X tg iter t' := ⟨fun pins s σ H R I q => h.run pins s σ H R I (i σ H R q)⟩
section
variable {X : Cx} {W : WX} {a b c e o i tg iter elt : Expr} {es ifs : List Expr} {fa fb fc : Den} {ga : Iens} {gb : Dens} {w : Option Nat} {pos p p1 p2 : Pos} {st : Stmt} {sts rest : List Stmt} {g h : SDen}
theorem walks_list {a : Addr} {vs : List V} {items : List D} : Walks X.K X.mg (Itl X.K a) (fun H mu _ => SqLm X.K H mu a vs ∧ Reps X.K X.mg H mu vs items) (ckOf none items) items where
  mono := fun H mu S H' mu' S' h x _ => ⟨x.sqL h.1, h.2.mono x⟩
  has := fun _ _ _ _ => trivial
  go := fun i H mu S h _ hi => ⟨vs, vs[i]'(by rw [h.2.length]; exact hi), h.1.sq, List.getElem?_eq_getElem _⟩
  yld := fun i H mu x H' S d h s y hd => by
    obtain ⟨rfl, hx⟩ := y
    obtain ⟨v, h1, h2⟩ := h.2.get hd
    have := hx vs h.1.sq
    rw [h1] at this
    cases this
    exact ⟨Ext.refl _ _, s, h2⟩
  stop := fun H mu S h _ => ⟨vs, h.1.sq, by rw [h.2.length]; exact Nat.le_refl _⟩
theorem walks_tup {a : Addr} {vs : List V} {items : List D} : Walks X.K X.mg (Itt X.K a) (fun H mu _ => SqTm X.K H mu a vs ∧ Reps X.K X.mg H mu vs items) (ckOf none items) items where
  mono := fun H mu S H' mu' S' h x _ => ⟨x.sqT h.1, h.2.mono x⟩
  has := fun _ _ _ _ => trivial
  go := fun i H mu S h _ hi => ⟨vs, vs[i]'(by rw [h.2.length]; exact hi), h.1.sq, List.getElem?_eq_getElem _⟩
  yld := fun i H mu x H' S d h s y hd => by
    obtain ⟨rfl, hx⟩ := y
    obtain ⟨v, h1, h2⟩ := h.2.get hd
    have := hx vs h.1.sq
    rw [h1] at this
    cases this
    exact ⟨Ext.refl _ _, s, h2⟩
  stop := fun H mu S h _ => ⟨vs, h.1.sq, by rw [h.2.length]; exact Nat.le_refl _⟩
def rgD (lo : Int) (n : Nat) : List D := (List.range n).map fun i => .int (lo + (i : Nat))
theorem rgD_length (lo : Int) (n : Nat) : (rgD lo n).length = n := by simp [rgD]
theorem walks_range (lo : Int) (n : Nat) : Walks X.K X.mg (Itr lo n) (fun _ _ _ => True) (ckOf none (rgD lo n)) (rgD lo n) where
  mono := fun _ _ _ _ _ _ _ _ _ => trivial
  has := fun _ _ _ _ => trivial
  go := fun i H mu _ _ _ hi => by rw [rgD_length] at hi; exact hi
  yld := fun i H mu x H' S d _ s y hd => by
    obtain ⟨rfl, rfl⟩ := y
    have hi : i < n := by rw [← rgD_length lo n]; exact (List.getElem?_eq_some_iff.mp hd).1
    have e : d = .int (lo + i) := by
      simp [rgD, List.getElem?_range hi] at hd
      exact hd.symm
    subst e
    exact ⟨Ext.refl _ _, s, .int _⟩
  stop := fun H mu _ _ _ => by show n ≤ (rgD lo n).length; rw [rgD_length]; exact Nat.le_refl _
/-- a list or a tuple, walked -/
def iSeq (K : PySem.W.Frag) (tl : TE) : TI := fun σ H R => tl σ H fun x H1 => ∃ a, x = .ref a ∧ (((∃ xs, SqL K H1 a xs) ∧ R (Itl K a) H1) ∨ ((∃ xs, SqT K H1 a xs) ∧ R (Itt K a) H1) ∨ ∃ lo hi, H1 a = some (.rng lo hi) ∧ -(2 ^ 62) ≤ lo ∧ lo < 2 ^ 62 ∧ -(2 ^ 62) ≤ hi ∧ hi < 2 ^ 62 ∧ R (Itr lo (hi - lo).toNat) H1)
theorem pi_seq {tl : TE} (hl : PE X iter tl) : PI X tg iter (iSeq X.K tl) := by
  refine ⟨fun pins s σ H R I h => ?_⟩
  refine thn (hl.run pins s σ H _ I h) fun v s1 ⟨x, H1, I1, r1, q1⟩ => ?_
  obtain ⟨a, rfl, q1⟩ := q1
  cases r1
  have fresh : ∀ b ∈ [s1.heap.objs.size], FpOk X pins H1 b := fun b hb => by
    rw [List.mem_singleton.mp hb]
    exact I1.fpOk (Nat.le_refl _) I1.fresh
  rcases q1 with ⟨⟨xs, hq⟩, q⟩ | ⟨⟨xs, hq⟩, q⟩ | ⟨lo, hi, ho, b1, b2, b3, b4, q⟩
  · obtain ⟨its, rv, pl, _⟩ := I1.list hq
    exact wpAny_pyIter_list pl.isList ⟨_, [s1.heap.objs.size], _, _, H1, rfl, I1.kept (t' := s1.toks) fun b o z => Heap.get?_push_of_some _ z, turn_list a _, ⟨_, Heap.get?_push_size _ rfl, rfl, rfl⟩, fresh, q⟩
  · obtain ⟨its, rv, pl, _⟩ := I1.tuple hq
    exact wpAny_pyIter_tuple (show s1.heap.IsTuple a its.toArray from pl) ⟨_, [s1.heap.objs.size], _, _, H1, rfl, I1.kept (t' := s1.toks) fun b o z => Heap.get?_push_of_some _ z, turn_tuple a _, ⟨_, Heap.get?_push_size _ rfl, rfl, rfl⟩, fresh, q⟩
  · obtain ⟨t1, t2, t3, pl⟩ := I1.hok a _ ho
    refine wpAny_pyIter_range (t := t1) (u := t2) (v := t3) (show IsRange s1.heap a lo hi 1 t1 t2 t3 from pl) (small_one b1 b2 b3 b4) ?_
    refine ⟨s1.heap.objs.size, [s1.heap.objs.size], _, _, H1, rfl, I1.kept (t' := s1.toks) fun b o z => Heap.get?_push_of_some _ z, turn_range _ lo (hi - lo).toNat, ?_, fresh, q⟩
    have e1 : lo + ((0 : Nat) : Int) * 1 = lo := by simp
    have e2 : (((hi - lo).toNat : Nat) : Int) - ((0 : Nat) : Int) = Builtin.Range.rangeSize lo hi 1 := by rw [rangeSize_one]; split <;> omega
    show IsRangeIter _ _ (lo + ((0 : Nat) : Int) * 1) ((((hi - lo).toNat : Nat) : Int) - ((0 : Nat) : Int)) 1
    rw [e1, e2]
    exact Heap.get?_push_size _ rfl
def asFix : D → Option (List D)
  | .lst xs => some xs
  | .tup xs => some xs
  | .scr ns => some (ns.map D.int)
  | _ => none
theorem walks_ref {a : Addr} {n : Nat} {items : List D} : Walks X.K X.mg (Itl X.K a) (fun _ mu S => mu[n]? = some a ∧ S[n]? = some items) (ckOf (some n) items) items where
  mono := fun H mu S H' mu' S' h x c => ⟨prefix_get x.pre h.1, c⟩
  has := fun _ _ _ h => h.2
  go := fun i H mu S h s hi => by
    obtain ⟨vs, hv, hr⟩ := s.at_ n a items h.1 h.2
    exact ⟨vs, vs[i]'(by rw [hr.length]; exact hi), .of hv, List.getElem?_eq_getElem _⟩
  yld := fun i H mu x H' S d h s y hd => by
    obtain ⟨rfl, hx⟩ := y
    obtain ⟨vs, hv, hr⟩ := s.at_ n a items h.1 h.2
    obtain ⟨v, h1, h2⟩ := hr.get hd
    have := hx vs (.of hv)
    rw [h1] at this
    cases this
    exact ⟨Ext.refl _ _, s, h2⟩
  stop := fun H mu S h s => by
    obtain ⟨vs, hv, hr⟩ := s.at_ n a items h.1 h.2
    exact ⟨vs, .of hv, by rw [hr.length]; exact Nat.le_refl _⟩
def asWalk (S : Store) : D → Option (List D × Option Nat)
  | .lst xs => some (xs, none)
  | .tup xs => some (xs, none)
  | .scr ns => some (ns.map D.int, none)
  | .ref n => (S[n]?).map fun xs => (xs, some n)
  | .rng lo hi => if -(2 ^ 62) ≤ lo ∧ lo < 2 ^ 62 ∧ -(2 ^ 62) ≤ hi ∧ hi < 2 ^ 62 then some (rgD lo (hi - lo).toNat, none) else none
  | _ => none
def dItems (f : Den) : Iens := fun ρ S => bndi (f ρ S) fun d S1 => (asWalk S1 d).map fun q => .ok q.1 q.2 S1
theorem PostI.mono {K : PySem.W.Frag} {mg : Str → Option Value} {σ : L2.St} {H H1 : Hp} {mu m1 : List Addr} {R : It → Hp → Prop} {r : Ires} (x : Ext H mu H1 m1) (q : PostI K mg W σ H mu R r) : PostI K mg W σ H1 m1 R r := by
  cases r with
  | ok items w S2 => exact fun J P H2 m2 wk pp x2 => q J P H2 m2 wk pp (x.trans x2)
  | exc c ns xs S2 => exact PostX.mono x q
theorem rdI_of {K : PySem.W.Frag} {mg : Str → Option Value} {f : Iens} {σ : L2.St} {H : Hp} {R : It → Hp → Prop} (h : rdI K mg W f σ H R) : ∃ mu S ρ r, StOk K mg H mu S ∧ EnvOk K mg H mu σ ρ ∧ f ρ S = some r ∧ PostI K mg W σ H mu R r := h
theorem rd_bndI {K : PySem.W.Frag} {mg : Str → Option Value} {f : Den} {k : D → Store → Option Ires} {σ : L2.St} {H : Hp} {mu : List Addr} {S : Store} {ρ : EnvD} {r : Ires} {R : It → Hp → Prop} {Q' : VK} (s : StOk K mg H mu S) (en : EnvOk K mg H mu σ ρ) (h : bndi (f ρ S) k = some r) (q : PostI K mg W σ H mu R r)
    (hk : ∀ d S1 v H1 m1, Ext H mu H1 m1 → StOk K mg H1 m1 S1 → EnvOk K mg H1 m1 σ ρ → Rep K mg H1 m1 v d → k d S1 = some r → PostI K mg W σ H1 m1 R r → Q' v H1) : rd K mg W f σ H Q' := by
  cases e : f ρ S with
  | none => rw [e] at h; cases h
  | some r1 =>
    rw [e] at h
    cases r1 with
    | ok d S1 => exact ⟨mu, S, ρ, _, s, en, e, fun v H1 m1 x s1 rp => hk d S1 v H1 m1 x s1 (en.mono x) rp h (q.mono x)⟩
    | exc c ns xs S1 =>
      have hr : r = .exc c ns xs S1 := (Option.some.inj h).symm
      subst hr
      exact ⟨mu, S, ρ, _, s, en, e, q⟩
/-- what is walked -/
theorem fix_walk {H : Hp} {mu : List Addr} {S : Store} {v : V} {d : D} {q : List D × Option Nat} {R : It → Hp → Prop} (s : StOk X.K X.mg H mu S) (r : Rep X.K X.mg H mu v d) (h : asWalk S d = some q) (hR : ∀ J P, Walks X.K X.mg J P (ckOf q.2 q.1) q.1 → P H mu S → R J H) :
    ∃ a, v = .ref a ∧ (((∃ xs, SqL X.K H a xs) ∧ R (Itl X.K a) H) ∨ ((∃ xs, SqT X.K H a xs) ∧ R (Itt X.K a) H) ∨ ∃ lo hi, H a = some (.rng lo hi) ∧ -(2 ^ 62) ≤ lo ∧ lo < 2 ^ 62 ∧ -(2 ^ 62) ≤ hi ∧ hi < 2 ^ 62 ∧ R (Itr lo (hi - lo).toNat) H) := by
  cases d <;> try (cases h; done)
  · cases h
    cases r with
    | tup hq rv => exact ⟨_, rfl, .inr (.inl ⟨⟨_, hq.sq⟩, hR _ _ walks_tup ⟨hq, rv⟩⟩)⟩
  · cases h
    cases r with
    | lst hq hn rv => exact ⟨_, rfl, .inl ⟨⟨_, .of hq⟩, hR _ _ walks_list ⟨.inl ⟨.inl hq, hn⟩, rv⟩⟩⟩
  · obtain ⟨xs, h1, rfl⟩ := Option.map_eq_some_iff.mp h
    cases r with
    | @ref a n hq =>
      obtain ⟨vs, hv, hr⟩ := s.at_ _ a xs hq h1
      exact ⟨a, rfl, .inl ⟨⟨vs, .of hv⟩, hR _ _ walks_ref ⟨hq, h1⟩⟩⟩
  · cases h
    cases r with
    | scr hq => exact ⟨_, rfl, .inl ⟨⟨_, hq.sq⟩, hR _ _ walks_list ⟨hq, Reps.ints _⟩⟩⟩
  · rename_i lo hi
    simp only [asWalk] at h
    split at h
    · rename_i hb
      cases h
      cases r with
      | rng hq hn => exact ⟨_, rfl, .inr (.inr ⟨lo, hi, hq, hb.1, hb.2.1, hb.2.2.1, hb.2.2.2, hR _ _ (walks_range lo (hi - lo).toNat) trivial⟩)⟩
    · cases h
theorem di_seq (ha : DE X W iter fa) : DI X W tg iter (dItems fa) := by
  refine piI (pi_seq ha) fun σ H R h => ?_
  obtain ⟨mu, S, ρ, r, s, en, hf, q⟩ := rdI_of h
  refine rd_bndI s en hf q fun d S1 v H1 m1 x s1 en1 rp h1 q1 => ?_
  obtain ⟨xs, h2, rfl⟩ := Option.map_eq_some_iff.mp h1
  exact fix_walk s1 rp h2 fun J P w pp => q1 J P H1 m1 w pp (Ext.refl _ _) s1
def dRange1 (f : Den) : Iens := fun ρ S => bndi (f ρ S) fun d S1 => match d with
  | .int j => if -(2 ^ 62) ≤ j ∧ j < 2 ^ 62 then some (.ok (rgD 0 j.toNat) none S1) else none
  | _ => none
def dRange2 (f g : Den) : Iens := fun ρ S => bndi (f ρ S) fun d S1 => bndi (g ρ S1) fun d2 S2 => match d, d2 with
  | .int i, .int j => if -(2 ^ 62) ≤ i ∧ i < 2 ^ 62 ∧ -(2 ^ 62) ≤ j ∧ j < 2 ^ 62 then some (.ok (rgD i (j - i).toNat) none S2) else none
  | _, _ => none
theorem di_range1 (hm : X.mg "range" = none) (ha : DE X W a fa) (hg : Gl X "range" := by rfl) (hs : starEach [a] X.env = [(false, eval a X.env)] := by rfl) : DI X W tg (.Call (.Name "range" p) [a] [] pos) (dRange1 fa) := by
  refine piI (pi_range1 hg hm (pa_cons ha pa_nil hs) hs) fun σ H R h => ?_
  obtain ⟨mu, S, ρ, r, s, en, hf, q⟩ := rdI_of h
  refine rd_bndI s en hf q fun d S1 v H1 m1 x s1 en1 rp h1 q1 => ?_
  split at h1
  · split at h1
    · rename_i j hj
      cases h1
      cases rp
      exact ⟨j, rfl, hj.1, hj.2, q1 _ _ H1 m1 (walks_range 0 j.toNat) trivial (Ext.refl _ _) s1⟩
    · cases h1
  · cases h1
theorem di_range2 (hm : X.mg "range" = none) (ha : DE X W a fa) (hb : DE X W b fb) (hg : Gl X "range" := by rfl) (hs : starEach [a, b] X.env = [(false, eval a X.env), (false, eval b X.env)] := by rfl) (hs2 : starEach [b] X.env = [(false, eval b X.env)] := by rfl)
    (hs3 : starEach [a, b] X.env = (false, eval a X.env) :: starEach [b] X.env := by rfl) : DI X W tg (.Call (.Name "range" p) [a, b] [] pos) (dRange2 fa fb) := by
  refine piI (pi_range2 hg hm (pa_cons ha (pa_cons hb pa_nil hs2) hs3) hs hs2) fun σ H R h => ?_
  obtain ⟨mu, S, ρ, r, s, en, hf, q⟩ := rdI_of h
  refine rd_bndI s en hf q fun d S1 v H1 m1 x s1 en1 rp h1 q1 => ?_
  refine rd_bndI s1 en1 h1 q1 fun d2 S2 v2 H2 m2 x2 s2 en2 rp2 h2 q2 => ?_
  split at h2
  · split at h2
    · rename_i i j hj
      cases h2
      cases rp
      cases rp2
      exact ⟨i, j, rfl, hj, q2 _ _ H2 m2 (walks_range i (j - i).toNat) trivial (Ext.refl _ _) s2⟩
    · cases h2
  · cases h2
/-- pairs of place and value -/
def enumD : Nat → List D → List D
  | _, [] => []
  | i, x :: xs => .tup [.int i, x] :: enumD (i + 1) xs
theorem enumD_length : ∀ (i : Nat) (xs : List D), (enumD i xs).length = xs.length
  | _, [] => rfl
  | i, x :: xs => congrArg Nat.succ (enumD_length (i + 1) xs)
theorem enumD_get : ∀ (i k : Nat) (xs : List D) (d : D), (enumD i xs)[k]? = some d → ∃ x, xs[k]? = some x ∧ d = .tup [.int ((i + k : Nat) : Int), x]
  | _, _, [], _, h => by cases h
  | i, 0, x :: xs, d, h => by
    simp only [enumD, List.getElem?_cons_zero] at h
    cases h
    exact ⟨x, rfl, rfl⟩
  | i, k + 1, x :: xs, d, h => by
    simp only [enumD, List.getElem?_cons_succ] at h
    obtain ⟨y, h1, rfl⟩ := enumD_get (i + 1) k xs d h
    exact ⟨y, by simpa using h1, by rw [show i + 1 + k = i + (k + 1) by omega]⟩
theorem walks_enum {a : Addr} {vs : List V} {items : List D} : Walks X.K X.mg (Ite X.K a) (fun H mu _ => SqLm X.K H mu a vs ∧ Reps X.K X.mg H mu vs items) (ckOf none (enumD 0 items)) (enumD 0 items) where
  mono := fun H mu S H' mu' S' h x _ => ⟨x.sqL h.1, h.2.mono x⟩
  has := fun _ _ _ _ => trivial
  go := fun i H mu S h _ hi => by
    rw [enumD_length] at hi
    exact ⟨vs, vs[i]'(by rw [h.2.length]; exact hi), h.1.sq, List.getElem?_eq_getElem _⟩
  yld := fun i H mu x H' S d h s y hd => by
    obtain ⟨T, z, rfl, hT, rfl, hz⟩ := y
    obtain ⟨xd, h1, rfl⟩ := enumD_get 0 i items d hd
    obtain ⟨v, h2, h3⟩ := h.2.get h1
    have e := hz vs h.1.sq
    rw [h2] at e
    have ez : z = v := (Option.some.inj e).symm
    subst ez
    have n := s.free hT
    have xx : Ext H mu (upd H T (.tup [.int (i : Nat), z])) mu := Ext.fresh hT n
    refine ⟨xx, s.fresh hT, .tup (.inl ⟨.inl upd_same, n⟩) (.cons ?_ (.cons (h3.mono xx) .nil))⟩
    rw [Nat.zero_add]
    exact .int _
  stop := fun H mu S h _ => ⟨vs, h.1.sq, by rw [enumD_length, h.2.length]; exact Nat.le_refl _⟩

/-! ### for -/
open Classical in
noncomputable def forLoop (w : Option Nat) (all : List D) (t : TDen) (g : SDen) : List D → SDen
  | [] => fun ρ S => some (.nx ρ S)
  | x :: xs => fun ρ S => match t x ρ S with
    | none => none
    | some ρ1 => match g ρ1 S with
      | some (.nx ρ2 S2) => if ckOf w all S2 then forLoop w all t g xs ρ2 S2 else none
      | some (.ct ρ2 S2) => if ckOf w all S2 then forLoop w all t g xs ρ2 S2 else none
      | some (.bk ρ2 S2) => some (.nx ρ2 S2)
      | r => r
noncomputable def sFor (f : Iens) (t : TDen) (g : SDen) : SDen := fun ρ S => match f ρ S with
  | some (.ok items w S1) => forLoop w items t g items ρ S1
  | some (.exc c ns xs S1) => some (.exc c ns xs ρ S1)
  | none => none
theorem ds_for {t : TDen} (hp : PassesOwn (model X.prog X.w) X.A X.env X.xe) (hc : X.calm = true) (hi : DI X W tg iter ga) (hg : DG X tg t) (hb : DSs X W sts g) (hs : ∀ x, foldedSetIterable iter X.env x = pure x := by intro _; rfl) :
    DS X W (.For tg iter sts [] pos) (sFor ga t g) := by
  refine psI (ps_for hp hc hi hg hb hs) fun D0 σ H q => ?_
  obtain ⟨mu, S, ρ, r, s, en, hf, q⟩ := q
  unfold sFor at hf
  cases e1 : ga ρ S with
  | none => rw [e1] at hf; cases hf
  | some r1 =>
    rw [e1] at hf
    refine ⟨mu, S, ρ, r1, s, en, e1, ?_⟩
    cases r1 with
    | exc c ns xs S1 => cases hf; exact q σ H mu (Ext.refl _ _) en
    | ok items w S1 =>
      intro J P H1 m1 wk pp x1 s1
      refine ⟨fun i m σ H => ∃ mu S ρ, StOk X.K X.mg H mu S ∧ EnvOk X.K X.mg H mu σ ρ ∧ P H mu S ∧ i + m = items.length ∧ forLoop w items t g (items.drop i) ρ S = some r ∧ PostS X.K X.mg W D0 H mu r,
        ⟨items.length, m1, S1, ρ, s1, en.mono x1, pp, by omega, by simpa using hf, q.mono x1⟩, ?_⟩
      rintro i m σ2 H2 ⟨m2, S2, ρ2, s2, en2, pp2, hl, hf2, q2⟩
      by_cases hi : i < items.length
      · obtain ⟨d, hd⟩ : ∃ d, items[i]? = some d := ⟨_, List.getElem?_eq_getElem hi⟩
        have hdrop : items.drop i = d :: items.drop (i + 1) := by
          rw [List.drop_eq_getElem_cons hi]
          rw [List.getElem?_eq_getElem hi] at hd
          rw [Option.some.inj hd]
        rw [hdrop] at hf2
        simp only [forLoop] at hf2
        refine .inr ⟨wk.go i H2 m2 S2 pp2 s2 hi, fun σ' H' => ∃ mu S ρ, StOk X.K X.mg H' mu S ∧ EnvOk X.K X.mg H' mu σ' ρ ∧ P H' mu S ∧ (i + 1) + (m - 1) = items.length ∧ forLoop w items t g (items.drop (i + 1)) ρ S = some r ∧ PostS X.K X.mg W D0 H' mu r,
          fun σ' H' z => ⟨m - 1, by omega, z⟩, fun v H3 y => ?_⟩
        obtain ⟨x3, s3, rp3⟩ := wk.yld i H2 m2 v H3 S2 d pp2 s2 y hd
        have en3 := en2.mono x3
        have q3 := q2.mono x3
        have pp3 := wk.mono _ _ _ _ _ _ pp2 x3 (wk.has _ _ _ pp2)
        cases e4 : t d ρ2 S2 with
        | none => rw [e4] at hf2; cases hf2
        | some ρ3 =>
          rw [e4] at hf2
          simp only at hf2
          refine ⟨m2, S2, ρ2, d, ρ3, s3, en3, rp3, e4, fun σ4 en4 => ?_⟩
          cases e5 : g ρ3 S2 with
          | none => rw [e5] at hf2; cases hf2
          | some r5 =>
            rw [e5] at hf2
            refine ⟨m2, S2, ρ3, r5, s3, en4, e5, ?_⟩
            cases r5 with
            | nx ρ5 S5 =>
              simp only at hf2
              split at hf2
              · rename_i hck
                exact fun σ6 H6 m6 x6 s6 en6 => ⟨m6, S5, ρ5, s6, en6, wk.mono _ _ _ _ _ _ pp3 x6 hck, by omega, hf2, q3.mono x6⟩
              · cases hf2
            | ct ρ5 S5 =>
              simp only at hf2
              split at hf2
              · rename_i hck
                exact fun σ6 H6 m6 x6 s6 en6 => ⟨m6, S5, ρ5, s6, en6, wk.mono _ _ _ _ _ _ pp3 x6 hck, by omega, hf2, q3.mono x6⟩
              · cases hf2
            | bk ρ5 S5 => cases hf2; exact q3
            | rt d5 S5 => cases hf2; exact q3
            | exc c ns xs ρ5 S5 => cases hf2; exact q3
      · have he : i = items.length := by omega
        subst he
        rw [List.drop_length] at hf2
        cases hf2
        exact .inl ⟨wk.stop H2 m2 S2 pp2 s2, q2 σ2 H2 m2 (Ext.refl _ _) s2 en2⟩

/-! ### comprehensions -/

mutual
inductive Tg where
  | one (k : Nat)
  | tup (ts : Tgs)
inductive Tgs where
  | nil
  | cons (t : Tg) (ts : Tgs)
end
mutual
def Tg.slots : Tg → List Nat
  | .one k => [k]
  | .tup ts => ts.slots
def Tgs.slots : Tgs → List Nat
  | .nil => []
  | .cons t ts => t.slots ++ ts.slots
end
def Tgs.len : Tgs → Nat
  | .nil => 0
  | .cons _ ts => ts.len + 1
mutual
def Tg.go : Tg → D → EnvD → Option EnvD
  | .one k, d, ρ => some (ρ.set k (some d))
  | .tup ts, d, ρ => match d with
    | .tup xs => ts.go xs ρ
    | _ => none
def Tgs.go : Tgs → List D → EnvD → Option EnvD
  | .nil, xs, ρ => match xs with
    | [] => some ρ
    | _ => none
  | .cons t ts, xs, ρ => match xs with
    | x :: xs => (t.go x ρ).bind fun ρ1 => ts.go xs ρ1
    | [] => none
end
mutual
def Tg.rd (K : PySem.W.Frag) : Tg → TG
  | .one k => gName k
  | .tup ts => gTup K ts.len (ts.rd K)
def Tgs.rd (K : PySem.W.Frag) : Tgs → TGs
  | .nil => gNil
  | .cons t ts => gCons (t.rd K) (ts.rd K)
end
def wipeD (ρ : EnvD) : List Nat → EnvD
  | [] => ρ
  | v :: vs => (wipeD ρ vs).set v none
theorem wipe_ok {K : PySem.W.Frag} {mg : Str → Option Value} {H : Hp} {mu : List Addr} {σ : L2.St} {ρ : EnvD} (h : EnvOk K mg H mu σ ρ) : ∀ own : List Nat, EnvOk K mg H mu (wipe σ own) (wipeD ρ own)
  | [] => h
  | v :: vs => (wipe_ok h vs).forget v none
theorem wipe_set {σ : L2.St} {k : Nat} {x : Option V} : ∀ {own : List Nat}, k ∈ own → wipe (σ.set k x) own = wipe σ own
  | [], h => nomatch h
  | v :: vs, h => by
    unfold wipe
    by_cases hv : k ∈ vs
    · rw [wipe_set hv]
    · have e : k = v := by
        rcases List.mem_cons.mp h with z | z
        · exact z
        · exact absurd z hv
      subst e
      have out : ∀ (ws : List Nat) (τ : L2.St), k ∉ ws → wipe (τ.set k x) ws = (wipe τ ws).set k x := by
        intro ws
        induction ws with
        | nil => intro τ _; rfl
        | cons w ws ih =>
          intro τ hw
          unfold wipe
          rw [ih τ (fun z => hw (List.mem_cons_of_mem _ z))]
          exact List.set_comm _ _ (fun z => hw (by rw [z]; exact List.mem_cons_self))
      rw [out vs σ hv, List.set_set]
theorem wipe_wipe (σ : L2.St) : ∀ own : List Nat, wipe (wipe σ own) own = wipe σ own := by
  have step : ∀ (ws own : List Nat), (∀ k ∈ ws, k ∈ own) → wipe (wipe σ ws) own = wipe σ own := by
    intro ws
    induction ws with
    | nil => intro own _; rfl
    | cons w ws ih =>
      intro own h
      show wipe ((wipe σ ws).set w none) own = _
      rw [wipe_set (h w List.mem_cons_self), ih own fun k hk => h k (List.mem_cons_of_mem _ hk)]
  exact fun own => step own own fun _ h => h
theorem Tgs.go_len : ∀ {ts : Tgs} {xs : List D} {ρ ρ' : EnvD}, ts.go xs ρ = some ρ' → xs.length = ts.len
  | .nil, [], _, _, _ => rfl
  | .nil, _ :: _, _, _, h => by simp [Tgs.go] at h
  | .cons t ts, [], _, _, h => by simp [Tgs.go] at h
  | .cons t ts, x :: xs, ρ, ρ', h => by
    simp only [Tgs.go] at h
    obtain ⟨ρ1, _, h2⟩ := Option.bind_eq_some_iff.mp h
    exact congrArg (· + 1) (Tgs.go_len h2)
mutual
theorem tg_ok {K : PySem.W.Frag} {mg : Str → Option Value} {H : Hp} {mu : List Addr} {own : List Nat} : ∀ (t : Tg) {v : V} {d : D} {σ : L2.St} {ρ ρ' : EnvD} {Q : L2.St → Hp → Prop}, Rep K mg H mu v d → EnvOk K mg H mu σ ρ → t.go d ρ = some ρ' → (∀ k ∈ t.slots, k ∈ own) →
    (∀ σ', EnvOk K mg H mu σ' ρ' → wipe σ' own = wipe σ own → Q σ' H) → t.rd K v σ H Q
  | .one k, v, d, σ, ρ, ρ', Q, r, en, h, hs, q => by
    simp only [Tg.go] at h
    cases h
    exact q _ (en.set r k) (wipe_set (hs k (by simp [Tg.slots])))
  | .tup ts, v, d, σ, ρ, ρ', Q, r, en, h, hs, q => by
    simp only [Tg.go] at h
    split at h
    · rename_i xs
      cases r with
      | tup hq rv => exact ⟨_, _, rfl, hq.sq, rv.length.trans (Tgs.go_len h), tgs_ok ts rv en h (fun k hk => hs k (by simpa [Tg.slots] using hk)) q⟩
    · cases h
theorem tgs_ok {K : PySem.W.Frag} {mg : Str → Option Value} {H : Hp} {mu : List Addr} {own : List Nat} : ∀ (ts : Tgs) {vs : List V} {ds : List D} {σ : L2.St} {ρ ρ' : EnvD} {Q : L2.St → Hp → Prop}, Reps K mg H mu vs ds → EnvOk K mg H mu σ ρ → ts.go ds ρ = some ρ' → (∀ k ∈ ts.slots, k ∈ own) →
    (∀ σ', EnvOk K mg H mu σ' ρ' → wipe σ' own = wipe σ own → Q σ' H) → ts.rd K vs σ H Q
  | .nil, vs, ds, σ, ρ, ρ', Q, r, en, h, hs, q => by
    cases r with
    | nil =>
      simp only [Tgs.go] at h
      cases h
      exact ⟨rfl, q _ en rfl⟩
    | cons r t => simp [Tgs.go] at h
  | .cons t ts, vs, ds, σ, ρ, ρ', Q, r, en, h, hs, q => by
    cases r with
    | nil => simp [Tgs.go] at h
    | @cons v vs d ds r rr =>
      simp only [Tgs.go] at h
      obtain ⟨ρ1, h1, h2⟩ := Option.bind_eq_some_iff.mp h
      refine ⟨v, vs, rfl, tg_ok t r en h1 (fun k hk => hs k (by simp [Tgs.slots, hk])) fun σ1 en1 w1 => ?_⟩
      exact tgs_ok ts rr en1 h2 (fun k hk => hs k (by simp [Tgs.slots, hk])) fun σ2 en2 w2 => q σ2 en2 (w2.trans w1)
end
open Classical in
/-- the block of a comprehension over items: its list stands at place n0 of the store -/
noncomputable def lcLoop (own : List Nat) (t : Tg) (cnd elt : Den) (ρ : EnvD) (n0 : Nat) (w : Option Nat) (all : List D) : List D → Store → Option Store
  | [], T => some T
  | x :: xs, T => match t.go x (wipeD ρ own) with
    | none => none
    | some ρ1 => match cnd ρ1 T with
      | some (.ok (.bl b) T1) => if b then (match elt ρ1 T1 with
        | some (.ok y T2) => (match T2[n0]? with
          | some acc => if acc.length < 16777216 ∧ ckOf w all (T2.set n0 (acc ++ [y])) then lcLoop own t cnd elt ρ n0 w all xs (T2.set n0 (acc ++ [y])) else none
          | none => none)
        | _ => none) else if ckOf w all T1 then lcLoop own t cnd elt ρ n0 w all xs T1 else none
      | _ => none
def dYes : Den := fun _ S => some (.ok (.bl true) S)
open Classical in
/-- a comprehension whose list is frozen -/
noncomputable def dLc (own : List Nat) (f : Iens) (t : Tg) (cnd elt : Den) : Den := fun ρ S => match f ρ S with
  | some (.ok items w S1) => (match lcLoop own t cnd elt ρ S1.length w items items (S1 ++ [[]]) with
    | some T => if T.take S1.length = S1 then (match T[S1.length]? with
      | some acc => (fzs T S1.length acc).map fun ys => .ok (.lst ys) S1
      | none => none) else (match T[S1.length]? with
      | some acc => (finS S1.length T).bind fun T' => (fzs T S1.length acc).map fun ys => .ok (.lst ys) T'
      | none => none)
    | none => none)
  | some (.exc c ns xs S1) => some (.exc c ns xs S1)
  | none => none
/-- .. whose list may change later -/
noncomputable def dLcM (own : List Nat) (f : Iens) (t : Tg) (cnd elt : Den) : Den := fun ρ S => match f ρ S with
  | some (.ok items w S1) => (lcLoop own t cnd elt ρ S1.length w items items (S1 ++ [[]])).map fun T => .ok (.ref S1.length) T
  | some (.exc c ns xs S1) => some (.exc c ns xs S1)
  | none => none
/-- the state behind i items -/
def LcAt (X : Cx) (P : Hp → List Addr → Store → Prop) (w : Option Nat) (items : List D) (own : List Nat) (t : Tg) (cnd elt : Den) (σ : L2.St) (ρ : EnvD) (n0 : Nat) (D0 : Addr) (H0 : Hp) (m0 : List Addr) (Te : Store) (i m : Nat) (H : Hp) : Prop :=
  ∃ mu T, StOk X.K X.mg H mu T ∧ Ext H0 m0 H mu ∧ EnvOk X.K X.mg H mu σ ρ ∧ P H mu T ∧ mu[n0]? = some D0 ∧ i + m = items.length ∧ lcLoop own t cnd elt ρ n0 w items (items.drop i) T = some Te
theorem lc_turns {J : It} {P : Hp → List Addr → Store → Prop} {items : List D} {own : List Nat} {t : Tg} {cnd elt : Den} {σ : L2.St} {ρ : EnvD} {n0 : Nat} {D0 : Addr} {H0 : Hp} {m0 : List Addr} {Te : Store} {Q : Hp → Prop} {W' : WX} (wk : Walks X.K X.mg J P (ckOf w items) items) (ht : ∀ k ∈ t.slots, k ∈ own) (hW : ∀ c d σ H, ¬ W' c d σ H)
    (hQ : ∀ H mu, StOk X.K X.mg H mu Te → Ext H0 m0 H mu → mu[n0]? = some D0 → Q H) (i m : Nat) (H : Hp) (h : LcAt X P w items own t cnd elt σ ρ n0 D0 H0 m0 Te i m H) :
    (J.stop i H ∧ Q H) ∨ (J.go i H ∧ ∃ Nx : Hp → Prop, (∀ H', Nx H' → ∃ m', m' < m ∧ LcAt X P w items own t cnd elt σ ρ n0 D0 H0 m0 Te (i + 1) m' H') ∧ ∀ x H', J.yld i H x H' → Tg.rd X.K t x (wipe σ own) H' fun σ2 H2 => wipe σ2 own = wipe σ own ∧ rdt X.K X.mg W' cnd σ2 H2 fun b H3 =>
      if b = true then rd X.K X.mg W' elt σ2 H3 fun y H4 => ∃ acc, H4 D0 = some (.lst acc) ∧ acc.length < sizeLine ∧ Nx (upd H4 D0 (.lst (acc ++ [y]))) else Nx H3) := by
  obtain ⟨m2, T2, s2, x02, en2, pp2, hD, hl, hf2⟩ := h
  by_cases hi : i < items.length
  · obtain ⟨d, hd⟩ : ∃ d, items[i]? = some d := ⟨_, List.getElem?_eq_getElem hi⟩
    have hdrop : items.drop i = d :: items.drop (i + 1) := by
      rw [List.drop_eq_getElem_cons hi]
      rw [List.getElem?_eq_getElem hi] at hd
      rw [Option.some.inj hd]
    rw [hdrop] at hf2
    simp only [lcLoop] at hf2
    refine .inr ⟨wk.go i H m2 T2 pp2 s2 hi, fun H' => LcAt X P w items own t cnd elt σ ρ n0 D0 H0 m0 Te (i + 1) (m - 1) H', fun H' z => ⟨m - 1, by omega, z⟩, fun v H3 y => ?_⟩
    obtain ⟨x3, s3, rp3⟩ := wk.yld i H m2 v H3 T2 d pp2 s2 y hd
    have en3 := wipe_ok (en2.mono x3) own
    have pp3 := wk.mono _ _ _ _ _ _ pp2 x3 (wk.has _ _ _ pp2)
    cases e4 : t.go d (wipeD ρ own) with
    | none => rw [e4] at hf2; cases hf2
    | some ρ3 =>
      rw [e4] at hf2
      simp only at hf2
      -- behind the target's store
      have body : ∀ σ2, EnvOk X.K X.mg H3 m2 σ2 ρ3 → wipe σ2 own = wipe σ own → (wipe σ2 own = wipe σ own ∧ rdt X.K X.mg W' cnd σ2 H3 fun b H3 =>
          if b = true then rd X.K X.mg W' elt σ2 H3 fun y H4 => ∃ acc, H4 D0 = some (.lst acc) ∧ acc.length < sizeLine ∧ LcAt X P w items own t cnd elt σ ρ n0 D0 H0 m0 Te (i + 1) (m - 1) (upd H4 D0 (.lst (acc ++ [y]))) else LcAt X P w items own t cnd elt σ ρ n0 D0 H0 m0 Te (i + 1) (m - 1) H3) := fun σ2 en4 hw => by
        refine ⟨hw, ?_⟩
        split at hf2
        · rename_i b T3 e5
          refine ⟨m2, T2, ρ3, _, s3, en4, e5, fun H5 m5 x5 s5 => ?_⟩
          have x35 := x3.trans x5
          cases b with
          | false =>
            refine iteF ?_
            simp only [Bool.false_eq_true, if_false] at hf2
            split at hf2
            · rename_i hck
              exact ⟨m5, T3, s5, x02.trans x35, en2.mono x35, wk.mono _ _ _ _ _ _ pp3 x5 hck, prefix_get x5.pre hD, by omega, hf2⟩
            · cases hf2
          | true =>
            refine iteT ?_
            simp only [if_true] at hf2
            split at hf2
            · rename_i y T4 e6
              split at hf2
              · rename_i acc e7
                split at hf2
                · rename_i hz
                  refine ⟨m5, T3, ρ3, _, s5, en4.mono x5, e6, fun w H6 m6 x6 s6 rp6 => ?_⟩
                  have hD6 := prefix_get x6.pre (prefix_get x5.pre hD)
                  obtain ⟨ws, hw6, hr6⟩ := s6.at_ n0 D0 acc hD6 e7
                  refine ⟨ws, hw6, by rw [hr6.length, line_eq]; exact hz.1, ?_⟩
                  have hm := List.mem_of_getElem? hD6
                  have xc := Ext.chg (H := H6) (o := .lst (ws ++ [w])) hm
                  have xa := (x35.trans x6).trans xc
                  exact ⟨m6, _, s6.chg hD6 (hr6.append (.single rp6)), x02.trans xa, en2.mono xa, wk.mono _ _ _ _ _ _ pp2 xa hz.2, hD6, by omega, hf2⟩
                · cases hf2
              · cases hf2
            · cases hf2
        · cases hf2
      exact tg_ok t rp3 en3 e4 ht fun σ2 en4 hw => body σ2 en4 (hw.trans (wipe_wipe σ own))
  · have he : i = items.length := by omega
    subst he
    rw [List.drop_length] at hf2
    cases hf2
    exact .inl ⟨wk.stop H m2 _ pp2 s2, hQ H m2 s2 x02 hD⟩

/-! ### enumerate over a list -/
def dEnum (f : Den) : Iens := fun ρ S => bndi (f ρ S) fun d S1 => match d with
  | .lst xs => some (.ok (enumD 0 xs) none S1)
  | .scr ns => some (.ok (enumD 0 (ns.map .int)) none S1)
  | _ => none
theorem di_enum {elts : List Expr} {kk : Nat} {tpos : Pos} (hm : X.mg "enumerate" = none) (ha : DE X W a fa) (hg : Gl X "enumerate" := by rfl) (hs : starEach [a] X.env = [(false, eval a X.env)] := by rfl) :
    DI X W (.Tuple elts kk tpos) (.Call (.Name "enumerate" p) [a] [] pos) (dEnum fa) := by
  refine piI (pi_enum hg hm (pa_cons ha pa_nil hs) hs) fun σ H R h => ?_
  obtain ⟨mu, S, ρ, r, s, en, hf, q⟩ := rdI_of h
  refine rd_bndI s en hf q fun d S1 v H1 m1 x s1 en1 rp h1 q1 => ?_
  cases rp with
  | lst hq hn rv =>
    cases h1
    exact ⟨_, _, rfl, .inl (.inl hq), q1 _ _ H1 m1 walks_enum ⟨.inl ⟨.inl hq, hn⟩, rv⟩ (Ext.refl _ _) s1⟩
  | scr hq =>
    cases h1
    exact ⟨_, _, rfl, hq.sq, q1 _ _ H1 m1 walks_enum ⟨hq, Reps.ints _⟩ (Ext.refl _ _) s1⟩
  | _ => cases h1
end
end PD
set_option Elab.async false
set_option linter.all false
set_option maxRecDepth 100000
set_option maxHeartbeats 4000000
namespace PD
open PySem PySem.Spec PyProof.Rows L2
/-! ### an own error that has an own __init__ is made: as a value that stays, as what raise flies -/
section
variable {X : Cx} {x : Str} {C fI : Addr} {k : Nat} {fd : FuncData} {ps : List Str} {sp : Sp} {ds : List Value} {dvs : List V} {e : Expr} {es : List Expr} {ta : TA} {p pos : Pos} {CX : CXT}
theorem passLN {P : Program} {w : World} {X : Cx} : Passes (L2N.CX P w) X (fun _ _ _ => False) := fun _ _ _ _ _ _ _ ⟨_, _, _, _, _, _, _, _, _, _, _, _, z⟩ => z.elim
/-- the class is called: what is there then -/
def Made (X : Cx) (pins : List (Addr × Obj)) (σ : L2.St) (H1 : Hp) (s1 : Shared) (C : Addr) (R : Addr → Hp → Prop) (u : Value) (z : Shared) : Prop :=
  ∃ (a : Addr) (h2 : Heap) (H2 : Hp), u = .ref a ∧ s1.heap.objs.size ≤ a ∧ (∀ b o, s1.heap.get? b = some o → h2.get? b = some o) ∧ Inv X pins σ (upd H1 a (exo a C none)) { s1 with heap := h2 } ∧ z.os = s1.os ∧ AllBare z.gens ∧
    Un (frs X.stack) [] (upd H1 a (exo a C none)) H2 h2 z.heap ∧ HOk X.prog X.w H2 z.heap ∧ R a H2
theorem oex_made (T : OexC X.K C) (iC : PySem.W.findIn X.K (.ref C) "__init__" = some (some (.ref fI))) (tI : PySem.W.typeIn X.K (.ref fI) = some (.type "function"))
    (F1 : FnOk X.prog X.w X.K X.mg X.base CX k fI fd ps sp) (hr : Room (k + 1) X.A) (hb : Binds X.K fd ps ds) (hd : Vals dvs ds) (hx : Passes CX X (fun _ _ _ => False)) {pins : List (Addr × Obj)} {σ : L2.St} {H1 : Hp} {s1 : Shared} {us : List Value} {vs : List V} {R : Addr → Hp → Prop}
    (J : Inv X pins σ H1 s1) (rv : Vals vs us) (hz : vs.length ≤ 1000) (hq : ∀ a, H1 a = none → sp (.ref a :: (vs ++ dvs)) (upd H1 a (exo a C none)) (fun v H2 => v = .non ∧ R a H2) fun _ _ _ => False) :
    wpAny (model X.prog X.w) X.A (call (.ref C) us) (Made X pins σ H1 s1 C R) X.xe s1 := by
  obtain ⟨q1, q2, q3, q4, bm, q6, q7, q8, q9, q10, q11, q12, q13, q14, q15, hC, hbm⟩ := T.cls
  obtain ⟨hp, gn, dr, tk, os⟩ := s1
  have lo : hp.objs.size ≤ hp.objs.size + 1 := by omega
  have q := hq (hp.objs.size + 1) (J.hok.fresh lo)
  generalize eh : (hp.push (PySem.W.kdv_tup us)).push (PySem.HandSPX.excO C hp.objs.size) = h2
  have grow : ∀ b o, hp.get? b = some o → h2.get? b = some o := fun b o z => by
    rw [← eh]; exact Heap.get?_push_of_some _ (Heap.get?_push_of_some _ z)
  have here : h2.get? (hp.objs.size + 1) = some (PySem.HandSPX.excO C hp.objs.size) := by
    rw [← eh]; heap_get
  have J2 : Inv X pins σ (upd H1 (hp.objs.size + 1) (exo (hp.objs.size + 1) C none)) ⟨h2, gn, dr, tk, os⟩ := J.laid (t' := tk) grow lo (exo_ok here)
  have all : Vals (V.ref (hp.objs.size + 1) :: (vs ++ dvs)) (Value.ref (hp.objs.size + 1) :: (us ++ ds)) := .cons rfl (rv.append hd)
  have cnt : (Value.ref (hp.objs.size + 1) :: us ++ ds).length = ps.length := all.length.symm.trans (F1.len _ _ _ _ q)
  have few : us.length ≤ sizeLine := by
    have := Paired.length rv
    rw [sizeLine_eq]; omega
  refine wpAny_call (PySem.HandSPX.call_own F.excBase_ValueError (fun Y => PySem.HandSPX.refsVE_contains Y bm hbm) (J.kIn _ _ hC) (PySem.W.looks_findIn J.kIn iC) (fun self => PySem.W.bind_fn J.kIn self tI) few ?_)
  rw [eh]
  refine codeAny_mono (F1.run _ X.stack _ _ ⟨Value.ref (hp.objs.size + 1) :: us, []⟩ _ _ _ _ (hr.make C us []) (J2.env0.make C us []) (hb _ (Value.ref (hp.objs.size + 1) :: us) J2.kIn cnt) all q) fun r z hc => ?_
  match r, hc with
  | .error er, hc => exact hx pins σ _ _ er z J2 hc
  | .ok (.ret u), ⟨v, H2, o2, b2, un, ok2, ru, ev, qR⟩ => subst ev; exact ⟨ru, hp.objs.size + 1, h2, H2, rfl, lo, grow, J2, o2, b2, un, ok2, qR⟩
  | .ok .next, hc => exact hc.elim
  | .ok .brk, hc => exact hc.elim
  | .ok .cont, hc => exact hc.elim
/-- as a value -/
def tMkV (C : Addr) (sp : Sp) (dvs : List V) (ta : TA) : TE := fun σ H Q => ta σ H fun vs H1 => vs.length ≤ 1000 ∧ ∀ a, H1 a = none → sp (.ref a :: (vs ++ dvs)) (upd H1 a (exo a C none)) (fun v H2 => v = .non ∧ Q (.ref a) H2) fun _ _ _ => False
theorem pe_oexV (T : OexC X.K C) (iC : PySem.W.findIn X.K (.ref C) "__init__" = some (some (.ref fI))) (tI : PySem.W.typeIn X.K (.ref fI) = some (.type "function"))
    (F1 : FnOk X.prog X.w X.K X.mg X.base CX k fI fd ps sp) (hr : Room (k + 1) X.A) (hb : Binds X.K fd ps ds) (hd : Vals dvs ds) (hx : Passes CX X (fun _ _ _ => False)) (hg : Gl X x) (hm : X.mg x = some (.ref C)) (ha : PA X (e :: es) ta)
    (hdb : (x == ("__debug__" : Str)) = false := by decide) (he : starEach (e :: es) X.env = (false, eval e X.env) :: starEach es X.env := by rfl) (hpl : (backTo pos (starEach es X.env)).any (·.1) = false := by rfl) :
    PE X (.Call (.Name x p) (e :: es) [] pos) (tMkV C sp dvs ta) := by
  refine ⟨fun pins s σ H Q J h => wpAny_Call_Name_kw (ld_glob J hg hm (PySem.W.callWith_K (h₀ := X.base) J.ok.mod.kin T.kC (thn (ha.run pos pins s σ H _ J h) fun us s1 ⟨vs, H1, J1, r1, hz, q1⟩ => ⟨J1.kIn, ?_⟩) he hpl) hdb)⟩
  refine wpAny_mono (oex_made T iC tI F1 hr hb hd hx J1 r1 hz q1) (fun u z ⟨a, h2, H2, eu, _, _, J2, o2, b2, un, ok2, q⟩ => ?_) fun _ _ z => z
  subst eu
  exact ⟨.ref a, H2, J2.call' o2 un ok2 b2 (fun b hb => absurd hb List.not_mem_nil), rfl, q⟩
/-- to be flown -/
def tMkF (C : Addr) (sp : Sp) (dvs : List V) (ta : TA) : L2.St → Hp → XK → Prop := fun σ H Q => ta σ H fun vs H1 => vs.length ≤ 1000 ∧ ∀ a, H1 a = none → sp (.ref a :: (vs ++ dvs)) (upd H1 a (exo a C none))
  (fun v H2 => v = .non ∧ ∃ (d : Addr) (fs : List (Str × V)), H2 a = some (exo a C (some d)) ∧ H2 d = some (exd d fs) ∧ H1 d = none ∧ Q (.ref C) (some d) (upd (del H2 a) d (.xd fs))) fun _ _ _ => False
theorem pmk_oexF (T : OexC X.K C) (iC : PySem.W.findIn X.K (.ref C) "__init__" = some (some (.ref fI))) (tI : PySem.W.typeIn X.K (.ref fI) = some (.type "function"))
    (F1 : FnOk X.prog X.w X.K X.mg X.base CX k fI fd ps sp) (hr : Room (k + 1) X.A) (hb : Binds X.K fd ps ds) (hd : Vals dvs ds) (hx : Passes CX X (fun _ _ _ => False)) (hg : Gl X x) (hm : X.mg x = some (.ref C)) (ha : PA X (e :: es) ta)
    (hdb : (x == ("__debug__" : Str)) = false := by decide) (he : starEach (e :: es) X.env = (false, eval e X.env) :: starEach es X.env := by rfl) (hpl : (backTo pos (starEach es X.env)).any (·.1) = false := by rfl) :
    L2N.PMk X (.Call (.Name x p) (e :: es) [] pos) (tMkF C sp dvs ta) := by
  intro pins s σ H Q J h
  refine wpAny_Call_Name_kw (ld_glob J hg hm (PySem.W.callWith_K (h₀ := X.base) J.ok.mod.kin T.kC (thn (ha.run pos pins s σ H _ J h) fun us s1 ⟨vs, H1, J1, r1, hz, q1⟩ => ⟨J1.kIn, ?_⟩) he hpl) hdb)
  refine wpAny_mono (oex_made T iC tI F1 hr hb hd hx J1 r1 hz q1) (fun u z ⟨a, h2, H2, eu, lo, grow, _, o2, b2, un, ok2, d, fs, ea, ed, nd, q⟩ => ?_) fun _ _ z => z
  subst eu
  obtain ⟨hz, gz, dz, tz, oz⟩ := z
  obtain ⟨hp, gn, dr, tk, os⟩ := s1
  obtain ⟨t0, G, J3, up, gone, obj, free⟩ := mk_end0 (d2 := dz) (t2 := tz) J1 lo grow un ok2 o2 b2 ea ed nd
  exact ⟨a, _, _, ⟨G, gz, dz, tz, oz⟩, _, .ref C, some d, rfl, J3, up, gone, obj, ⟨rfl, rfl, fun vs ev => by cases ev; rfl⟩, rfl, rfl, free, rfl, b2, raises_own T.exC T.tyC, q⟩
end
end PD
set_option Elab.async false
set_option linter.all false
set_option maxRecDepth 100000
set_option maxHeartbeats 4000000
namespace PD
open PySem PySem.Spec PyProof.Rows L2
abbrev W0 : WX := fun _ _ _ _ => False
section
variable {X : Cx} {W : WX} {a b c e o i tg iter elt tg1 iter1 : Expr} {es ifs ifs1 : List Expr} {fa fb fc : Den} {ga gb : Dens} {gi : Iens} {w : Option Nat} {pos p p1 p2 : Pos} {st : Stmt} {sts rest : List Stmt} {g h : SDen} {scope : Scope} {own : List (Str × Nat)} {t t1 : Tg} {cnd cnd1 felt : Den}

def DTs (X : Cx) (W : WX) (ifs : List Expr) (f : Den) : Prop := PTs X ifs (rdt X.K X.mg W f)
theorem dts_nil : DTs X W [] dYes := by
  refine ⟨fun pins s σ H Q I h => pts_nil.run pins s σ H Q I ?_⟩
  obtain ⟨mu, S, ρ, r, s, en, hf, q⟩ := h
  cases hf
  exact q H mu (Ext.refl _ _) s
theorem dts_one (h : DT X W c fc) : DTs X W [c] fc := pts_one h

theorem ck_grow {items : List D} {S : Store} {y : List D} (h : ckOf w items S) : ckOf w items (S ++ [y]) := by
  cases w with
  | none => trivial
  | some n =>
    have h1 : S[n]? = some items := h
    show (S ++ [y])[n]? = some items
    rw [List.getElem?_append_left (List.getElem?_eq_some_iff.mp h1).1]
    exact h1
/-- what the loop of a comprehension needs of its start and gives at its end -/
theorem lc_start {J : It} {P : Hp → List Addr → Store → Prop} {items : List D} {σ : L2.St} {ρ : EnvD} {H : Hp} {mu : List Addr} {S : Store} {Te : Store} {ow : List Nat} {Q : V → Hp → Prop} (wk : Walks X.K X.mg J P (ckOf w items) items) (ht : ∀ k ∈ t.slots, k ∈ ow) (pp : P H mu S) (s : StOk X.K X.mg H mu S) (en : EnvOk X.K X.mg H mu σ ρ)
    (hf : lcLoop ow t cnd felt ρ S.length w items items (S ++ [[]]) = some Te) (D0 : Addr) (hD : H D0 = none)
    (hQ : ∀ H' mu' , StOk X.K X.mg H' mu' Te → Ext H mu H' mu' → mu'[S.length]? = some D0 → Q (.ref D0) H') :
    ∃ Wv : Nat → Nat → Hp → Prop, (∃ m, Wv 0 m (upd H D0 (.lst []))) ∧ ∀ i m H, Wv i m H → (J.stop i H ∧ Q (.ref D0) H) ∨ (J.go i H ∧ ∃ Nx : Hp → Prop, (∀ H', Nx H' → ∃ m', m' < m ∧ Wv (i + 1) m' H') ∧ ∀ x H', J.yld i H x H' → Tg.rd X.K t x (wipe σ ow) H' fun σ2 H2 => wipe σ2 ow = wipe σ ow ∧ rdt X.K X.mg W0 cnd σ2 H2 fun b H3 =>
      if b = true then rd X.K X.mg W0 felt σ2 H3 fun y H4 => ∃ acc, H4 D0 = some (.lst acc) ∧ acc.length < sizeLine ∧ Nx (upd H4 D0 (.lst (acc ++ [y]))) else Nx H3) := by
  have x0 : Ext H mu (upd H D0 (.lst [])) (mu ++ [D0]) := Ext.grow s hD
  refine ⟨LcAt X P w items ow t cnd felt σ ρ S.length D0 (upd H D0 (.lst [])) (mu ++ [D0]) Te, ⟨items.length, mu ++ [D0], S ++ [[]], s.grow hD .nil, Ext.refl _ _, en.mono x0, wk.mono _ _ _ _ _ _ pp x0 (ck_grow (wk.has _ _ _ pp)), ?_, by omega, by simpa using hf⟩, ?_⟩
  · rw [← s.len, List.getElem?_append_right (Nat.le_refl _)]
    simp
  · exact fun i m H' h' => lc_turns (W' := W0) wk ht (fun _ _ _ _ z => z) (fun H2 mu2 s2 x2 hd => hQ H2 mu2 s2 (x0.trans x2) hd) i m H' h'
/-- the list is frozen -/
theorem lc_frozen {H H' : Hp} {mu mu' : List Addr} {S Te : Store} {D0 : Addr} {acc ys : List D} {σ : L2.St} {Q : VK} (s : StOk X.K X.mg H mu S) (s' : StOk X.K X.mg H' mu' Te) (x : Ext H mu H' mu') (hD : mu'[S.length]? = some D0) {S' : Store} (hT : StOk X.K X.mg H' mu S') (ha : Te[S.length]? = some acc) (hy : fzs Te S.length acc = some ys)
    (q : Post X.K X.mg W σ H mu Q (.ok (.lst ys) S')) : Q (.ref D0) H' := by
  obtain ⟨vs, hv, hr⟩ := s'.at_ _ D0 acc hD ha
  have x1 := ext_less x
  refine q (.ref D0) H' mu x1 hT (.lst hv (fun z => ?_) ?_)
  · obtain ⟨n, hn⟩ := List.getElem?_of_mem z
    have h1 := prefix_get x.pre hn
    have e := (List.getElem?_inj (List.getElem?_eq_some_iff.mp h1).1 s'.nd).mp (h1.trans hD.symm)
    have := (List.getElem?_eq_some_iff.mp hn).1
    rw [s.len] at this
    omega
  · refine reps_map x.pre.subset (fzg_ok s' x.pre 3) hr ?_
    rw [s.len]
    exact hy
theorem lc_read {wi : TI} {σ : L2.St} {H : Hp} {Q : VK} (ht : ∀ k ∈ t.slots, k ∈ own.map (·.2)) (h : rd X.K X.mg W (dLc (own.map (·.2)) gi t cnd felt) σ H Q) : tLc (rdI X.K X.mg W gi) (Tg.rd X.K t) (rdt X.K X.mg W0 cnd) (rd X.K X.mg W0 felt) (own.map (·.2)) σ H Q := by
  obtain ⟨mu, S, ρ, r, s, en, hf, q⟩ := h
  unfold dLc at hf
  cases e1 : gi ρ S with
  | none => rw [e1] at hf; cases hf
  | some r1 =>
    rw [e1] at hf
    refine ⟨mu, S, ρ, r1, s, en, e1, ?_⟩
    cases r1 with
    | exc c ns xs S1 => cases hf; exact q
    | ok items w S1 =>
      simp only at hf
      intro J P H1 m1 wk pp x1 s1 D0 hD
      split at hf
      · rename_i Te e2
        split at hf
        · rename_i hT
          split at hf
          · rename_i acc e3
            obtain ⟨ys, h4, rfl⟩ := Option.map_eq_some_iff.mp hf
            exact lc_start wk ht pp s1 (en.mono x1) e2 D0 hD fun H2 m2 s2 x2 hd => lc_frozen s1 s2 x2 hd (st_less s1 s2 x2 hT) e3 h4 (q.mono x1)
          · cases hf
        · split at hf
          · rename_i acc e3
            obtain ⟨T', hT, h5⟩ := Option.bind_eq_some_iff.mp hf
            obtain ⟨ys, h4, rfl⟩ := Option.map_eq_some_iff.mp h5
            exact lc_start wk ht pp s1 (en.mono x1) e2 D0 hD fun H2 m2 s2 x2 hd => lc_frozen s1 s2 x2 hd (st_fin s1 s2 x2 (by rw [s1.len]; exact hT)) e3 h4 (q.mono x1)
          · cases hf
      · cases hf
theorem lcM_read {σ : L2.St} {H : Hp} {Q : VK} (ht : ∀ k ∈ t.slots, k ∈ own.map (·.2)) (h : rd X.K X.mg W (dLcM (own.map (·.2)) gi t cnd felt) σ H Q) : tLc (rdI X.K X.mg W gi) (Tg.rd X.K t) (rdt X.K X.mg W0 cnd) (rd X.K X.mg W0 felt) (own.map (·.2)) σ H Q := by
  obtain ⟨mu, S, ρ, r, s, en, hf, q⟩ := h
  unfold dLcM at hf
  cases e1 : gi ρ S with
  | none => rw [e1] at hf; cases hf
  | some r1 =>
    rw [e1] at hf
    refine ⟨mu, S, ρ, r1, s, en, e1, ?_⟩
    cases r1 with
    | exc c ns xs S1 => cases hf; exact q
    | ok items w S1 =>
      simp only at hf
      intro J P H1 m1 wk pp x1 s1 D0 hD
      obtain ⟨Te, e2, rfl⟩ := Option.map_eq_some_iff.mp hf
      exact lc_start wk ht pp s1 (en.mono x1) e2 D0 hD fun H2 m2 s2 x2 hd => (Post.mono x1 q) (.ref D0) H2 m2 x2 s2 (.ref hd)
theorem de_lc (own : List (Str × Nat)) (t : Tg) (hc : X.calm = true) (hN : X.N.Nodup) (ht : ∀ k ∈ t.slots, k ∈ own.map (·.2)) (ok : BlkOk X.N X.env.scope scope own) (hi : DI X W tg iter gi)
    (hg : ∀ (s : Shared) (H : Hp) (C : Addr) (cl : List (Str × Addr)) (fp : List Addr), PG (X.blk s H scope (compEnvC scope cl C X.env) fp) tg (Tg.rd X.K t)) (hif : ∀ (s : Shared) (H : Hp) (C : Addr) (cl : List (Str × Addr)) (fp : List Addr), DTs (X.blk s H scope (compEnvC scope cl C X.env) fp) W0 ifs cnd)
    (he : ∀ (s : Shared) (H : Hp) (C : Addr) (cl : List (Str × Addr)) (fp : List Addr), DE (X.blk s H scope (compEnvC scope cl C X.env) fp) W0 elt felt) (hs : ∀ x, foldedSetIterable iter X.env x = pure x := by intro _; rfl) :
    DE X W (.ListComp elt [⟨tg, iter, ifs, 0⟩] scope pos) (dLc (own.map (·.2)) gi t cnd felt) := peI (pe_lc (tt := rdt X.K X.mg W0 cnd) (te := rd X.K X.mg W0 felt) hc hN hi ok hg hif he hs) fun σ H Q h => lc_read (wi := rdI X.K X.mg W gi) ht h
theorem de_lcM (own : List (Str × Nat)) (t : Tg) (hc : X.calm = true) (hN : X.N.Nodup) (ht : ∀ k ∈ t.slots, k ∈ own.map (·.2)) (ok : BlkOk X.N X.env.scope scope own) (hi : DI X W tg iter gi)
    (hg : ∀ (s : Shared) (H : Hp) (C : Addr) (cl : List (Str × Addr)) (fp : List Addr), PG (X.blk s H scope (compEnvC scope cl C X.env) fp) tg (Tg.rd X.K t)) (hif : ∀ (s : Shared) (H : Hp) (C : Addr) (cl : List (Str × Addr)) (fp : List Addr), DTs (X.blk s H scope (compEnvC scope cl C X.env) fp) W0 ifs cnd)
    (he : ∀ (s : Shared) (H : Hp) (C : Addr) (cl : List (Str × Addr)) (fp : List Addr), DE (X.blk s H scope (compEnvC scope cl C X.env) fp) W0 elt felt) (hs : ∀ x, foldedSetIterable iter X.env x = pure x := by intro _; rfl) :
    DE X W (.ListComp elt [⟨tg, iter, ifs, 0⟩] scope pos) (dLcM (own.map (·.2)) gi t cnd felt) := peI (pe_lc (tt := rdt X.K X.mg W0 cnd) (te := rd X.K X.mg W0 felt) hc hN hi ok hg hif he hs) fun σ H Q h => lcM_read ht h
/-- y = [..] on one line -/
theorem ds_setLc (k : Nat) (own : List (Str × Nat)) (t : Tg) {y : Str} {py spos : Pos} (hc : X.calm = true) (hN : X.N.Nodup) (ht : ∀ k ∈ t.slots, k ∈ own.map (·.2)) (ok : BlkOk X.N X.env.scope scope own) (hi : DI X W tg iter gi)
    (hg : ∀ (s : Shared) (H : Hp) (C : Addr) (cl : List (Str × Addr)) (fp : List Addr), PG (X.blk s H scope (compEnvC scope cl C X.env) fp) tg (Tg.rd X.K t)) (hif : ∀ (s : Shared) (H : Hp) (C : Addr) (cl : List (Str × Addr)) (fp : List Addr), DTs (X.blk s H scope (compEnvC scope cl C X.env) fp) W0 ifs cnd)
    (he : ∀ (s : Shared) (H : Hp) (C : Addr) (cl : List (Str × Addr)) (fp : List Addr), DE (X.blk s H scope (compEnvC scope cl C X.env) fp) W0 elt felt)
    (hsw : swapsWith (.ListComp elt [⟨tg, iter, ifs, 0⟩] scope pos) (some (.Name y py)) spos.line X.env = pure true) (hy : X.N[k]? = some y := by rfl) (hyl : X.env.scope.names.lookup y = some .local := by rfl) (hs : ∀ x, foldedSetIterable iter X.env x = pure x := by intro _; rfl) :
    DS X W (.Assign [.Name y py] (.ListComp elt [⟨tg, iter, ifs, 0⟩] scope pos) spos) (sSet k (dLc (own.map (·.2)) gi t cnd felt)) :=
  psI (ps_setLc (tt := rdt X.K X.mg W0 cnd) (te := rd X.K X.mg W0 felt) hc hN hy hyl hsw hi ok hg hif he hs) fun D σ H q => by
    obtain ⟨mu, S, ρ, r, s, en, hf, q⟩ := q
    have h2 : rd X.K X.mg W (dLc (own.map (·.2)) gi t cnd felt) σ H (fun x H1 => gName k x σ H1 D.nx) := rd_bndS s en hf q fun d S1 v H1 m1 x s1 en1 rp h1 q1 => by
      cases h1
      exact q1 _ H1 m1 (Ext.refl _ _) s1 (en1.set rp k)
    exact lc_read (wi := rdI X.K X.mg W gi) ht h2
theorem ds_setLcM (k : Nat) (own : List (Str × Nat)) (t : Tg) {y : Str} {py spos : Pos} (hc : X.calm = true) (hN : X.N.Nodup) (ht : ∀ k ∈ t.slots, k ∈ own.map (·.2)) (ok : BlkOk X.N X.env.scope scope own) (hi : DI X W tg iter gi)
    (hg : ∀ (s : Shared) (H : Hp) (C : Addr) (cl : List (Str × Addr)) (fp : List Addr), PG (X.blk s H scope (compEnvC scope cl C X.env) fp) tg (Tg.rd X.K t)) (hif : ∀ (s : Shared) (H : Hp) (C : Addr) (cl : List (Str × Addr)) (fp : List Addr), DTs (X.blk s H scope (compEnvC scope cl C X.env) fp) W0 ifs cnd)
    (he : ∀ (s : Shared) (H : Hp) (C : Addr) (cl : List (Str × Addr)) (fp : List Addr), DE (X.blk s H scope (compEnvC scope cl C X.env) fp) W0 elt felt)
    (hsw : swapsWith (.ListComp elt [⟨tg, iter, ifs, 0⟩] scope pos) (some (.Name y py)) spos.line X.env = pure true) (hy : X.N[k]? = some y := by rfl) (hyl : X.env.scope.names.lookup y = some .local := by rfl) (hs : ∀ x, foldedSetIterable iter X.env x = pure x := by intro _; rfl) :
    DS X W (.Assign [.Name y py] (.ListComp elt [⟨tg, iter, ifs, 0⟩] scope pos) spos) (sSet k (dLcM (own.map (·.2)) gi t cnd felt)) :=
  psI (ps_setLc (tt := rdt X.K X.mg W0 cnd) (te := rd X.K X.mg W0 felt) hc hN hy hyl hsw hi ok hg hif he hs) fun D σ H q => by
    obtain ⟨mu, S, ρ, r, s, en, hf, q⟩ := q
    have h2 : rd X.K X.mg W (dLcM (own.map (·.2)) gi t cnd felt) σ H (fun x H1 => gName k x σ H1 D.nx) := rd_bndS s en hf q fun d S1 v H1 m1 x s1 en1 rp h1 q1 => by
      cases h1
      exact q1 _ H1 m1 (Ext.refl _ _) s1 (en1.set rp k)
    exact lcM_read ht h2

/-! ### raise -/
/-- what the written part says of the own exception class named c, whose __init__ stores its parameters under the names ns -/
structure ExcCls (K : PySem.W.Frag) (mg : Str → Option Value) (c : Str) (C : Addr) : Prop where
  gl : mg c = some (.ref C)
  ox : OexC K C
/-- __init__ of one or two fields, as a promise -/
def spInit1 (K : PySem.W.Frag) (f1 : Str) : Sp := fun vs H Q _ => ∃ (a C : Addr) (y : V), vs = [.ref a, y] ∧ OexC K C ∧ PySem.W.findIn K (.ref C) f1 = some none ∧ H a = some (exo a C none) ∧ ∀ dx, H dx = none → dx ≠ a → Q .non (upd (upd H dx (exd dx [(f1, y)])) a (exo a C (some dx)))
def spInit2 (K : PySem.W.Frag) (f1 f2 : Str) : Sp := fun vs H Q _ => ∃ (a C : Addr) (y z : V), vs = [.ref a, y, z] ∧ OexC K C ∧ PySem.W.findIn K (.ref C) f1 = some none ∧ PySem.W.findIn K (.ref C) f2 = some none ∧ H a = some (exo a C none) ∧
  ∀ dx, H dx = none → dx ≠ a → Q .non (upd (upd (upd H dx (exd dx [(f1, y)])) a (exo a C (some dx))) dx (exd dx [(f2, z), (f1, y)]))
theorem init1_ok {P : Program} {w : World} {K : PySem.W.Frag} {mg : Str → Option Value} {base : Heap} {x qual : Str} {params : Arguments} {scope : Scope} {dvs : List V} {kws : List (Str × V)} {f : Addr} {fd : FuncData} {f1 p1 self : Str} {q1 q2 q3 q4 : Pos}
    (F : FunD K x qual params [.Assign [.Attribute (.Name self q1) f1 q2] (.Name p1 q3) q4] scope dvs kws f fd) (Sc : FnScope [self, p1] [self, p1] scope)
    (h1 : Vis scope self) (h2 : Vis scope p1) (hd1 : (self == ("__debug__" : Str)) = false := by decide) (hd2 : (p1 == ("__debug__" : Str)) = false := by decide) (hc1 : (self == ("__classdict__" : Str)) = false := by decide) (hc2 : (p1 == ("__classdict__" : Str)) = false := by decide)
    (hsw : ∀ env : Env, swapsWith (.Name p1 q3) (some (.Attribute (.Name self q1) f1 q2)) q4.line env = pure false := by intro _; rfl) : FnOk P w K mg base (L2N.CX P w) 1 f fd [self, p1] (spInit1 K f1) := by
  refine F.ok Sc (fun vs H Q E h => ?_) (fun cdv A outer s H vs Q E hr h => ⟨_, pss_one (ps_ost (pe_var (i := 0) rfl h1 hd1 hc1) (pe_var (i := 1) rfl h2 hd2 hc2) (hsw _)), ?_⟩)
  · obtain ⟨a, C, y, rfl, _⟩ := h
    rfl
  · obtain ⟨a, C, y, rfl, hC, hf, ha, q⟩ := h
    exact ⟨y, rfl, .ref a, rfl, a, C, rfl, hC, hf, .inl ⟨ha, fun dx n1 n2 => q dx n1 n2⟩⟩
theorem init2_ok {P : Program} {w : World} {K : PySem.W.Frag} {mg : Str → Option Value} {base : Heap} {x qual : Str} {params : Arguments} {scope : Scope} {dvs : List V} {kws : List (Str × V)} {f : Addr} {fd : FuncData} {f1 f2 p1 p2 self : Str} {q1 q2 q3 q4 r1 r2 r3 r4 : Pos}
    (F : FunD K x qual params [.Assign [.Attribute (.Name self q1) f1 q2] (.Name p1 q3) q4, .Assign [.Attribute (.Name self r1) f2 r2] (.Name p2 r3) r4] scope dvs kws f fd) (Sc : FnScope [self, p1, p2] [self, p1, p2] scope)
    (h1 : Vis scope self) (h2 : Vis scope p1) (h3 : Vis scope p2) (hd1 : (self == ("__debug__" : Str)) = false := by decide) (hd2 : (p1 == ("__debug__" : Str)) = false := by decide) (hd3 : (p2 == ("__debug__" : Str)) = false := by decide)
    (hc1 : (self == ("__classdict__" : Str)) = false := by decide) (hc2 : (p1 == ("__classdict__" : Str)) = false := by decide) (hc3 : (p2 == ("__classdict__" : Str)) = false := by decide)
    (hsw : ∀ env : Env, swapsWith (.Name p1 q3) (some (.Attribute (.Name self q1) f1 q2)) q4.line env = pure false := by intro _; rfl) (hsw2 : ∀ env : Env, swapsWith (.Name p2 r3) (some (.Attribute (.Name self r1) f2 r2)) r4.line env = pure false := by intro _; rfl) :
    FnOk P w K mg base (L2N.CX P w) 1 f fd [self, p1, p2] (spInit2 K f1 f2) := by
  refine F.ok Sc (fun vs H Q E h => ?_) (fun cdv A outer s H vs Q E hr h => ⟨_, pss_cons (ps_ost (pe_var (i := 0) rfl h1 hd1 hc1) (pe_var (i := 1) rfl h2 hd2 hc2) (hsw _)) (pss_one (ps_ost (pe_var (i := 0) rfl h1 hd1 hc1) (pe_var (i := 2) rfl h3 hd3 hc3) (hsw2 _))), ?_⟩)
  · obtain ⟨a, C, y, z, rfl, _⟩ := h
    rfl
  · obtain ⟨a, C, y, z, rfl, hC, hf, hf2, ha, q⟩ := h
    refine ⟨y, rfl, .ref a, rfl, a, C, rfl, hC, hf, .inl ⟨ha, fun dx n1 n2 => ?_⟩⟩
    refine ⟨z, rfl, .ref a, rfl, a, C, rfl, hC, hf2, .inr ⟨dx, [(f1, y)], upd_same, ?_, by show 1 ≤ 900; decide, q dx n1 n2⟩⟩
    rw [upd_ne n2, upd_same]
def sRaise (c : Str) (ns : List Str) (ix : List Nat) (g : Dens) : SDen := fun ρ S => match g ρ S with
  | some (.ok ds S1) => if ds.length = ns.length then some (.exc c ns (ix.filterMap fun i => ds[i]?) ρ S1) else none
  | some (.exc c ns xs S1) => some (.exc c ns xs ρ S1)
  | none => none
theorem del_upd {H : Hp} {a : Addr} {o : HO} (h : H a = none) : del (upd H a o) a = H := by
  funext b
  by_cases hb : b = a
  · rw [hb, del_same, h]
  · rw [del_ne hb, upd_ne hb]
theorem exc1_end {H1 : Hp} {a C dx : Addr} {f1 : Str} {y : V} (ha : H1 a = none) (hd : upd H1 a (exo a C none) dx = none) (hne : dx ≠ a) :
    upd (del (upd (upd (upd H1 a (exo a C none)) dx (exd dx [(f1, y)])) a (exo a C (some dx))) a) dx (.xd [(f1, y)]) = upd H1 dx (.xd [(f1, y)]) := by
  funext b
  by_cases h1 : b = dx
  · rw [h1, upd_same, upd_same]
  · rw [upd_ne h1, upd_ne h1]
    by_cases h2 : b = a
    · rw [h2, del_same, ha]
    · rw [del_ne h2, upd_ne h2, upd_ne h1, upd_ne h2]
theorem exc2_end {H1 : Hp} {a C dx : Addr} {f1 f2 : Str} {y z : V} (ha : H1 a = none) (hne : dx ≠ a) :
    upd (del (upd (upd (upd (upd H1 a (exo a C none)) dx (exd dx [(f1, y)])) a (exo a C (some dx))) dx (exd dx [(f2, z), (f1, y)])) a) dx (.xd [(f2, z), (f1, y)]) = upd H1 dx (.xd [(f2, z), (f1, y)]) := by
  funext b
  by_cases h1 : b = dx
  · rw [h1, upd_same, upd_same]
  · rw [upd_ne h1, upd_ne h1]
    by_cases h2 : b = a
    · rw [h2, del_same, ha]
    · rw [del_ne h2, upd_ne h1, upd_ne h2, upd_ne h1, upd_ne h2]
theorem ds_raise1 {c : Str} {C fI : Addr} {k : Nat} {fd : FuncData} {ps : List Str} {f1 : Str} (T : OexC X.K C) (iC : PySem.W.findIn X.K (.ref C) "__init__" = some (some (.ref fI))) (tI : PySem.W.typeIn X.K (.ref fI) = some (.type "function")) (hno : PySem.W.findIn X.K (.ref C) f1 = some none)
    (F1 : FnOk X.prog X.w X.K X.mg X.base (L2N.CX X.prog X.w) k fI fd ps (spInit1 X.K f1)) (hr : Room (k + 1) X.A) (hb : Binds X.K fd ps []) (hc : X.calm = true) (tk : L2N.Takes X W) (hm : X.mg c = some (.ref C)) (ha : DA X W [e] ga) (hg : Gl X c := by rfl) (hdb : (c == ("__debug__" : Str)) = false := by decide)
    (he : starEach [e] X.env = (false, eval e X.env) :: starEach [] X.env := by rfl) : DS X W (.Raise (some (.Call (.Name c p) [e] [] p1)) none pos) (sRaise c [f1] [0] ga) := by
  refine psI (L2N.ps_raise hc tk (pmk_oexF (dvs := []) T iC tI F1 hr hb .nil passLN hg hm ha hdb he (by rfl))) fun D σ H q => ?_
  obtain ⟨mu, S, ρ, r, s, en, hf, q⟩ := q
  unfold sRaise at hf
  have hf2 : (match ga ρ S with | some (.ok d S1) => (if d.length = [f1].length then some (.exc c [f1] ([0].filterMap fun i => d[i]?) ρ S1) else none) | some (.exc c ns xs S1) => some (.exc c ns xs ρ S1) | none => none) = some r := hf
  refine rds_bndS s en hf2 q fun ds S1 vs H1 m1 x s1 en1 rp h1 q1 => ?_
  split at h1
  · rename_i hl
    cases h1
    match ds, hl with
    | [d], _ =>
      obtain ⟨v, rfl, rv⟩ := reps1 rp
      refine ⟨by show 1 ≤ 1000; decide, fun a ha2 => ⟨a, C, v, rfl, T, hno, upd_same, fun dx hd hne => ⟨rfl, dx, [(f1, v)], upd_same, ?_, ?_, ?_⟩⟩⟩
      · exact (upd_ne hne).trans upd_same
      · rw [upd_ne hne] at hd; exact hd
      · have hd1 : H1 dx = none := by rw [upd_ne hne] at hd; exact hd
        rw [exc1_end ha2 hd hne]
        have n := s1.free hd1
        have x2 : Ext H1 m1 (upd H1 dx (.xd [(f1, v)])) m1 := Ext.fresh hd1 n
        exact q1 σ _ m1 x2 (en1.mono x2) C dx [v] _ m1 (Ext.refl _ _) (s1.fresh hd1) hm upd_same n rfl (.single (rv.mono x2))
  · cases h1
theorem ds_raise2 {c : Str} {C fI : Addr} {k : Nat} {fd : FuncData} {ps : List Str} {f1 f2 : Str} (T : OexC X.K C) (iC : PySem.W.findIn X.K (.ref C) "__init__" = some (some (.ref fI))) (tI : PySem.W.typeIn X.K (.ref fI) = some (.type "function")) (hno : PySem.W.findIn X.K (.ref C) f1 = some none) (hno2 : PySem.W.findIn X.K (.ref C) f2 = some none)
    (F1 : FnOk X.prog X.w X.K X.mg X.base (L2N.CX X.prog X.w) k fI fd ps (spInit2 X.K f1 f2)) (hr : Room (k + 1) X.A) (hb : Binds X.K fd ps []) (hc : X.calm = true) (tk : L2N.Takes X W) (hm : X.mg c = some (.ref C)) (ha : DA X W [e, b] ga) (hg : Gl X c := by rfl) (hdb : (c == ("__debug__" : Str)) = false := by decide)
    (he : starEach [e, b] X.env = (false, eval e X.env) :: starEach [b] X.env := by rfl) (hpl : (backTo p1 (starEach [b] X.env)).any (·.1) = false := by rfl) : DS X W (.Raise (some (.Call (.Name c p) [e, b] [] p1)) none pos) (sRaise c [f2, f1] [1, 0] ga) := by
  refine psI (L2N.ps_raise hc tk (pmk_oexF (dvs := []) T iC tI F1 hr hb .nil passLN hg hm ha hdb he hpl)) fun D σ H q => ?_
  obtain ⟨mu, S, ρ, r, s, en, hf, q⟩ := q
  unfold sRaise at hf
  have hf2 : (match ga ρ S with | some (.ok d S1) => (if d.length = [f2, f1].length then some (.exc c [f2, f1] ([1, 0].filterMap fun i => d[i]?) ρ S1) else none) | some (.exc c ns xs S1) => some (.exc c ns xs ρ S1) | none => none) = some r := hf
  refine rds_bndS s en hf2 q fun ds S1 vs H1 m1 x s1 en1 rp h1 q1 => ?_
  split at h1
  · rename_i hl
    cases h1
    match ds, hl with
    | [d, d2], _ =>
      obtain ⟨v, v2, rfl, rv, rv2⟩ := reps2 rp
      refine ⟨by show 2 ≤ 1000; decide, fun a ha2 => ⟨a, C, v, v2, rfl, T, hno, hno2, upd_same, fun dx hd hne => ⟨rfl, dx, [(f2, v2), (f1, v)], ?_, upd_same, ?_, ?_⟩⟩⟩
      · rw [upd_ne (Ne.symm hne)]; exact upd_same
      · rw [upd_ne hne] at hd; exact hd
      · have hd1 : H1 dx = none := by rw [upd_ne hne] at hd; exact hd
        rw [exc2_end ha2 hne]
        have n := s1.free hd1
        have x2 : Ext H1 m1 (upd H1 dx (.xd [(f2, v2), (f1, v)])) m1 := Ext.fresh hd1 n
        exact q1 σ _ m1 x2 (en1.mono x2) C dx [v2, v] _ m1 (Ext.refl _ _) (s1.fresh hd1) hm upd_same n rfl (.cons (rv2.mono x2) (.single (rv.mono x2)))
  · cases h1
end
end PD
set_option Elab.async false
set_option linter.all false
set_option maxRecDepth 100000
set_option maxHeartbeats 4000000
/-! isinstance of an error that has fields, whether held as a value or by an except clause -/
namespace PySem.W
open PySem PySem.Spec PySem.Calls PyProof.Rows
section
variable {prog : Program} {w : World} {A : Around} {E : Value → Shared → Prop} {s : Shared} {K : Frag} {e C : Addr} {oe : Obj} {od : Option Obj}
theorem findObj_getset {nm : Str} {a g : Value} (hc : (clsIn K C).isSome = true) (ha : findIn K (.ref C) nm = some (some a)) (hg : specialIn K a "__get__" = some (some g)) (ht : takesIn K a = some true) : findObj K C od nm = some (.bind g a) := by
  obtain ⟨cd, hc⟩ := Option.isSome_iff_exists.mp hc
  simp [findObj, hc, ha, hg, ht]
/-- its class, asked by name -/
theorem err_class {Q : Option Value → Shared → Prop} (c1 : findIn K (.ref C) "__getattribute__" = some (some (.builtin "BaseException.__getattribute__"))) (c2 : findIn K (.ref C) "__getattr__" = some none) (c3 : subIn K (.ref C) (.type "BaseException") = some true)
    (c4 : hasDictIn K C = true) (c5 : findIn K (.ref C) "__class__" = some (some (.builtin "object.__class__"))) (c6 : specialIn K (.builtin "object.__class__") "__get__" = some (some (.builtin "getset_descriptor.__get__")))
    (c7 : takesIn K (.builtin "object.__class__") = some true) (c8 : mroIn K C (.type "object") = some true) (X : K.In s.heap) (J : InstAt s.heap e oe C od) (q : Q (some (.ref C)) { s with toks := s.toks + 1 }) : wpAny (model prog w) A (getAttr? (.ref e) "__class__") Q E s := by
  have fo : findObj K C od "__class__" = some (.bind (.builtin "getset_descriptor.__get__") (.builtin "object.__class__")) := findObj_getset (by obtain ⟨cd, hcd, _⟩ := any_some c4; simp [hcd]) c5 c6 c7
  obtain ⟨hp, gn, dr, tk, ost⟩ := s
  have la := J.type (M := model prog w)
  have lb := looks_findIn (M := model prog w) X c1
  have lc := looks_findIn (M := model prog w) X c2
  have ld := looks_find (M := model prog w) X J fo
  have ls : Looks (model prog w) hp (isInstance (.ref e) (.type "BaseException")) true := la.andThen (looks_subIn X c3)
  have b0 : (false && onTheHeap (Value.builtin "BaseException.__getattribute__")) = false := rfl
  have b1 : (onTheHeap (Value.ref C) && Value.builtin "BaseException.__getattribute__" == Value.builtin "object.__getattribute__") = false := by
    have z : (Value.builtin "BaseException.__getattribute__" == Value.builtin "object.__getattribute__") = false := by decide +kernel
    rw [z, Bool.and_false]
  unfold getAttr? getAttrBy? getAttrBy
  refine wpAny_bind (wpAny_mkText (wpAny_bind (wpAny_attempt (wpAny_holding (wpAny_bind (la.at (wpAny_bind (lb.at ?_))))))))
  show wpAny _ _ (if (onTheHeap (Value.ref C) && Value.builtin "BaseException.__getattribute__" == Value.builtin "object.__getattribute__") = true then _ else _) _ _ _
  rw [b1, if_neg Bool.false_ne_true]
  unfold getAttrByItsOwn hookBefore
  refine wpAny_bind ?_
  rw [if_pos (show onTheHeap (Value.ref C) = true from rfl)]
  refine lc.at ?_
  refine wpAny_bind (wpAny_attempt (wpAny_holding ?_))
  unfold callGetattribute boundAndCalled
  rw [b0, if_neg Bool.false_ne_true, PySem.F.excAttr_ValueError.ga.bind (.ref e)]
  refine wpAny_bind (wpAny_pure ?_)
  show wpAny _ _ (call (.builtin "BaseException.__getattribute__") [.ref e, .str "__class__" tk]) _ _ _
  refine wpAny_call (codeAny_call_builtin PySem.F.excAttr_ValueError.ga.plain PySem.F.entry_bexc_ga (@check_slot (model prog w) _ _ ⟨hp, gn, dr, tk + 1, ost⟩ "BaseException.__getattribute__" "BaseException" "__getattribute__" (.ref e) [.str "__class__" tk] [] _ (by decide +kernel) (by decide +kernel) ls (PySem.F.args_bexc_ga (.ref e) (.str "__class__" tk)) ?_))
  unfold Builtin.«object.__getattribute__»
  refine wpAny_bind (wpAny_of_eq (a := ((Value.ref e : Value), [Value.str "__class__" tk])) (by first | rfl | (simp only [slotArgs]; rfl)) (wpAny_bind (wpAny_pure (wpAny_bind (la.at (wpAny_bind (ld.at ?_)))))))
  show wpAny _ _ (holding [Value.builtin "object.__class__"] (call (.builtin "getset_descriptor.__get__") [.builtin "object.__class__", .ref e, .ref C]) >>= ret) _ _ _
  refine wpAny_bind (wpAny_holding (wpAny_call (class_get (s := ⟨hp, gn, dr, tk + 1, ost⟩) (ox := oe) (od := od) X J c8 (wpAny_pure ?_))))
  show wpAny _ _ (handedOut (.ref C)) _ _ _
  rw [handedOut_of (v := .ref C) rfl]
  first
    | exact wpAny_pure (wpAny_pure q)
    | exact wpAny_pure q
    | exact wpAny_pure (wpAny_bind (wpAny_pure (wpAny_pure q)))
theorem kit_err (c1 : findIn K (.ref C) "__getattribute__" = some (some (.builtin "BaseException.__getattribute__"))) (c2 : findIn K (.ref C) "__getattr__" = some none) (c3 : subIn K (.ref C) (.type "BaseException") = some true)
    (c4 : hasDictIn K C = true) (c5 : findIn K (.ref C) "__class__" = some (some (.builtin "object.__class__"))) (c6 : specialIn K (.builtin "object.__class__") "__get__" = some (some (.builtin "getset_descriptor.__get__")))
    (c7 : takesIn K (.builtin "object.__class__") = some true) (c8 : mroIn K C (.type "object") = some true) : KitX K (.ref e) (.ref C) (fun h => ∃ oe od, InstAt h e oe C od) := by
  have there : ∃ cd o, clsIn K C = some cd ∧ K.lookup C = some o ∧ o.data = .cls cd := by
    obtain ⟨cd, hcd, _⟩ := any_some c4
    have hcd' := hcd
    unfold clsIn at hcd
    split at hcd
    · rename_i ho
      cases hcd
      exact ⟨_, _, hcd', ho, rfl⟩
    · cases hcd
  obtain ⟨cd, o, hcd, ho, hd⟩ := there
  refine ⟨fun M h _ J => J.elim fun _ J => J.elim fun _ J => J.type, fun M h X _ => fun A' Q' E' s' k q => ?_, fun h tp dd its n sl X htp => ?_, fun X J q => J.elim fun _ J => J.elim fun _ J => err_class c1 c2 c3 c4 c5 c6 c7 c8 X J q⟩
  · unfold isType loadHead
    refine wpAny_bind (wpAny_loadPart (k _ _ (X _ _ ho)) ?_)
    rw [hd]
    exact wpAny_pure q
  · refine Bool.eq_false_iff.mpr fun z => ?_
    have z1 : C = tp := Value.ref.inj (beq_iff_eq.mp z)
    subst z1
    have z2 := (X _ _ ho).symm.trans htp
    have z3 := Option.some.inj z2
    rw [z3] at hd
    cases hd
end
end PySem.W
set_option Elab.async false
set_option linter.all false
set_option maxRecDepth 100000
set_option maxHeartbeats 4000000
namespace PD
open PySem PySem.Spec PyProof.Rows L2
section
variable {X : Cx} {W : WX} {a b c e o i tg iter elt : Expr} {es : List Expr} {fa fb fc : Den} {ga gb : Dens} {pos p p1 p2 : Pos} {st : Stmt} {sts rest : List Stmt} {g h : SDen}

/-! ### the fields of an error -/
theorem lookup_zip {K : PySem.W.Frag} {mg : Str → Option Value} {H : Hp} {mu : List Addr} {f : Str} : ∀ {ns : List Str} {vs : List V} {ds : List D} {d : D}, Reps K mg H mu vs ds → (ns.zip ds).lookup f = some d → ∃ v, (ns.zip vs).lookup f = some v ∧ Rep K mg H mu v d
  | [], _, _, _, _, h => by simp at h
  | n :: ns, _, _, _, .nil, h => by simp at h
  | n :: ns, _, _, d, .cons (v := v) (d := d0) r t, h => by
    rw [List.zip_cons_cons, List.lookup_cons] at h
    rw [List.zip_cons_cons, List.lookup_cons]
    split at h
    · rename_i hh
      cases h
      exact ⟨v, rfl, r⟩
    · exact lookup_zip t h
structure ErrAt (K : PySem.W.Frag) (mg : Str → Option Value) (c f : Str) : Prop where
  is_ : ∀ C, mg c = some (.ref C) → XfC K C ∧ PySem.W.findIn K (.ref C) f = some none
def tXv (K : PySem.W.Frag) (f : Str) (te : TE) : TE := fun σ H Q => te σ H fun x H1 => ∃ (a C d : Addr) (fs : List (Str × V)) (v : V), x = .ref a ∧ H1 a = some (exo a C (some d)) ∧ H1 d = some (exd d fs) ∧ (XfC K C ∧ PySem.W.findIn K (.ref C) f = some none) ∧ fs.lookup f = some v ∧ Q v H1
theorem pe_xv {te : TE} {f : Str} (he : PE X e te) (hb : attributeBase e f X.env (eval e X.env) = eval e X.env := by rfl) : PE X (.Attribute e f pos) (tXv X.K f te) := by
  refine ⟨fun pins s σ H Q I h => ?_⟩
  refine attr_of hb (thn (he.run pins s σ H _ I h) fun u s1 hh => ?_)
  obtain ⟨x, H1, I1, rx, a, C, d, fs, v, rfl, ea, ed, ⟨T, hno⟩, l, q⟩ := hh
  obtain rfl : u = Value.ref a := rx
  obtain ⟨t1, ha⟩ := exo_at I1.hok ea
  obtain ⟨mA, hns, hr⟩ := exd_at I1.hok ed
  obtain ⟨od, ho, hl⟩ := lookIn_ns hns
  obtain ⟨u, hu, ru⟩ := RelO.some_of (v := v) (o := mA f) (by rw [← l]; exact hr f)
  have J : PySem.W.InstAt s1.heap a _ C (some od) := ⟨ha, rfl, by unfold PySem.W.notCls; rfl, ho⟩
  exact HandSPX.exc_get I1.kIn J T.ga T.gg T.exC (PySem.W.findObj_own T.hdC hno rfl (by rw [hl, hu])) (handed_of ru) ⟨v, H1, I1.tok _, ru, q⟩
/-- e.f, e an error as a value -/
def dAttr (cs : List Str) (f : Str) (fe : Den) : Den := fun ρ S => bnd (fe ρ S) fun d S1 => match d with
  | .err c ns xs => if c ∈ cs then ((ns.zip xs).lookup f).map fun d => .ok d S1 else none
  | _ => none
theorem de_attr (cs : List Str) {f : Str} (F : ∀ c ∈ cs, ErrAt X.K X.mg c f) (he : DE X W e fa) (hb : attributeBase e f X.env (eval e X.env) = eval e X.env := by rfl) : DE X W (.Attribute e f pos) (dAttr cs f fa) := by
  refine peI (pe_xv he hb) fun σ H Q h => ?_
  obtain ⟨mu, S, ρ, res, s, en, hf, q⟩ := h
  refine rd_bnd s en hf q fun d S1 v H1 m1 x s1 en1 rp h1 q1 => ?_
  cases rp with
  | @err a C dd c ns vs xs hm he hd n1 n2 l r =>
    simp only at h1
    split at h1
    · rename_i hc
      obtain ⟨d, hl, rfl⟩ := Option.map_eq_some_iff.mp h1
      obtain ⟨v, hv, rv⟩ := lookup_zip r hl
      exact ⟨a, C, dd, _, v, rfl, he, hd, (F c hc).is_ C hm, hv, q1.val s1 rv⟩
    · cases h1
  | _ => cases h1
/-- e.f in the suite that caught it as a, its dict at dd -/
def dAttrC (a dd : Addr) (cs : List Str) (f : Str) (fe : Den) : Den := fun ρ S => bnd (fe ρ S) fun d S1 => match d with
  | .cau a' d' c ns xs => if a' = a ∧ d' = dd ∧ c ∈ cs then ((ns.zip xs).lookup f).map fun d => .ok d S1 else none
  | _ => none
theorem de_attrC {a0 C0 d0 : Addr} {oe : Obj} {pn : List (Addr × Obj)} {f c0 : Str} (F : ErrAt X.K X.mg c0 f) (hm0 : X.mg c0 = some (.ref C0)) (hz : Zc (.ref C0) (some d0) oe) (hf : ∃ vs, oe.data = .fields vs) (he : DE (X.suite a0 ((a0, oe) :: pn)) W e fa)
    (hb : attributeBase e f X.env (eval e X.env) = eval e X.env := by rfl) : DE (X.suite a0 ((a0, oe) :: pn)) W (.Attribute e f pos) (dAttrC a0 d0 [c0] f fa) := by
  obtain ⟨T, hno⟩ := F.is_ C0 hm0
  refine peI (pe_xf T hno hz hf he hb) fun σ H Q h => ?_
  obtain ⟨mu, S, ρ, res, s, en, hf, q⟩ := h
  refine rd_bnd s en hf q fun d S1 v H1 m1 x s1 en1 rp h1 q1 => ?_
  cases rp with
  | @cau a C dd c ns vs xs hm hd n2 l r =>
    simp only at h1
    split at h1
    · rename_i hc
      obtain ⟨rfl, rfl, hc⟩ := hc
      obtain ⟨d, hl, rfl⟩ := Option.map_eq_some_iff.mp h1
      obtain ⟨v, hv, rv⟩ := lookup_zip r hl
      exact ⟨rfl, rfl, _, _, v, rfl, hd, hv, q1.val s1 rv⟩
    · cases h1
  | _ => cases h1

/-! ### isinstance of an error -/
/-- what the written part says of the class c, so that isinstance asks its errors rightly, and what it answers for the class value cv -/
structure ErrIs (K : PySem.W.Frag) (C : Addr) : Prop where
  c1 : PySem.W.findIn K (.ref C) "__getattribute__" = some (some (.builtin "BaseException.__getattribute__"))
  c2 : PySem.W.findIn K (.ref C) "__getattr__" = some none
  c3 : PySem.W.subIn K (.ref C) (.type "BaseException") = some true
  c4 : PySem.W.hasDictIn K C = true
  c5 : PySem.W.findIn K (.ref C) "__class__" = some (some (.builtin "object.__class__"))
  c6 : PySem.W.specialIn K (.builtin "object.__class__") "__get__" = some (some (.builtin "getset_descriptor.__get__"))
  c7 : PySem.W.takesIn K (.builtin "object.__class__") = some true
  c8 : PySem.W.mroIn K C (.type "object") = some true
def IsTab (K : PySem.W.Frag) (mg : Str → Option Value) (cv : Value) (tab : List (Str × Bool)) : Prop := ∀ c b, tab.lookup c = some b → ∀ C, mg c = some (.ref C) → ErrIs K C ∧ PySem.W.kitOne K (.ref C) cv = some b
def rIsX (K : PySem.W.Frag) : List V → Hp → VK → Prop := fun xs H Q => ∃ (a C d : Addr) (fs : List (Str × V)) (c : V) (cv : Value) (b : Bool), xs = [.ref a, c] ∧ (∀ u, RelV c u → u = cv) ∧ H a = some (exo a C (some d)) ∧ H d = some (exd d fs) ∧ ErrIs K C ∧ PySem.W.kitOne K (.ref C) cv = some b ∧ Q (.bl b) H
theorem call_isX {X : Cx} : CallR X (.builtin "isinstance") (rIsX X.K) := by
  intro pins s σ H xs us Q I r h
  obtain ⟨a, C, d, fs, c, cv, b, rfl, hcv, ea, ed, T, e, q⟩ := h
  cases r with
  | cons rx rr =>
    cases rr with
    | cons rt rr =>
      cases rr
      cases rx
      have ec := hcv _ rt
      subst ec
      obtain ⟨t1, ha⟩ := exo_at I.hok ea
      obtain ⟨mA, hns, hr⟩ := exd_at I.hok ed
      obtain ⟨od, ho, hl⟩ := lookIn_ns hns
      have J : PySem.W.InstAt s.heap a _ C (some od) := ⟨ha, rfl, by unfold PySem.W.notCls; rfl, ho⟩
      exact PySem.W.kia_one (PySem.W.kit_err T.c1 T.c2 T.c3 T.c4 T.c5 T.c6 T.c7 T.c8) I.kIn ⟨_, _, J⟩ e (fun z => nomatch z) fun tk => ⟨.bl b, H, I.kept (t' := tk) fun _ _ z => z, rfl, q⟩
def rIsC (K : PySem.W.Frag) (D a d : Addr) : List V → Hp → VK → Prop := fun xs H Q => ∃ (fs : List (Str × V)) (c : V) (cv : Value) (b : Bool), xs = [.ref a, c] ∧ (∀ u, RelV c u → u = cv) ∧ H d = some (.xd fs) ∧ PySem.W.kitOne K (.ref D) cv = some b ∧ Q (.bl b) H
theorem call_isC {X : Cx} {a D d : Addr} {oe : Obj} {pn : List (Addr × Obj)} (T : ErrIs X.K D) (hz : Zc (.ref D) (some d) oe) (hf : ∃ vs, oe.data = .fields vs) : CallR (X.suite a ((a, oe) :: pn)) (.builtin "isinstance") (rIsC X.K D a d) := by
  intro pins s σ H xs us Q I r h
  obtain ⟨fs, c, cv, b, rfl, hcv, ed, e, q⟩ := h
  cases r with
  | cons rx rr =>
    cases rr with
    | cons rt rr =>
      cases rr
      cases rx
      have ec := hcv _ rt
      subst ec
      obtain ⟨hget, _⟩ := I.pin (a, oe) (List.mem_append.mpr (.inl List.mem_cons_self))
      obtain ⟨vs, hv⟩ := hf
      have hx : ObjOk X.prog X.w H s.heap d (.xd fs) := I.hok d _ ed
      obtain ⟨mA, hns, hr⟩ := hx
      obtain ⟨od, ho, hl⟩ := lookIn_ns hns
      have J : PySem.W.InstAt s.heap a oe D (some od) := ⟨hget, hz.1, by unfold PySem.W.notCls; rw [hv] <;> rfl, by rw [hz.2]; exact ho⟩
      exact PySem.W.kia_one (PySem.W.kit_err T.c1 T.c2 T.c3 T.c4 T.c5 T.c6 T.c7 T.c8) I.kIn ⟨_, _, J⟩ e (fun z => nomatch z) fun tk => ⟨.bl b, H, I.kept (t' := tk) fun _ _ z => z, rfl, q⟩

theorem takes0 {X : Cx} : L2N.Takes X W0 := fun u s' ⟨_, _, _, _, _, _, _, _, _, _, _, _, _, _, _, _, w⟩ => w.elim
/-- isinstance(e, T), e an error as a value, T a class by its name -/
def dIsE (tab : List (Str × Bool)) (f : Den) : Den := fun ρ S => bnd (f ρ S) fun d S1 => match d with
  | .err c _ _ => (tab.lookup c).map fun b => .ok (.bl b) S1
  | _ => none
theorem de_isE {T : Str} {cv : Value} {cw : V} {tab : List (Str × Bool)} (ht : IsTab X.K X.mg cv tab) (ha : DE X W a fa) (hc : PE X (.Name T p2) (tC cw)) (hcw : ∀ u, RelV cw u → u = cv) (hm : X.mg "isinstance" = none) (hg : Gl X "isinstance" := by rfl)
    (hs : starEach [a, .Name T p2] X.env = (false, eval a X.env) :: starEach [.Name T p2] X.env := by rfl) :
    DE X W (.Call (.Name "isinstance" p1) [a, .Name T p2] [] pos) (dIsE tab fa) := by
  refine peI (pe_callB call_isX hg hm (by decide +kernel) (pa_cons ha (pa_cons hc pa_nil) hs) (by decide) (by decide) hs (by rfl)) fun σ H Q h => ?_
  obtain ⟨mu, S, ρ, res, s, en, hf, q⟩ := h
  refine rd_bnd s en hf q fun d S1 v H1 m1 x s1 en1 rp h1 q1 => ?_
  cases rp with
  | @err e C dd c ns vs xs hm he hd n1 n2 l r =>
    simp only at h1
    obtain ⟨b, hl, rfl⟩ := Option.map_eq_some_iff.mp h1
    obtain ⟨T1, T2⟩ := ht c b hl C hm
    exact ⟨_, _, _, _, cw, cv, b, rfl, hcw, he, hd, T1, T2, q1.val s1 (.bl b)⟩
  | _ => cases h1
def dIsC (a0 d0 : Addr) (c0 : Str) (b : Bool) (f : Den) : Den := fun ρ S => bnd (f ρ S) fun d S1 => match d with
  | .cau a d c _ _ => if a = a0 ∧ d = d0 ∧ c = c0 then some (.ok (.bl b) S1) else none
  | _ => none
theorem de_isC {a0 C0 d0 : Addr} {oe : Obj} {pn : List (Addr × Obj)} {c0 T : Str} {cv : Value} {cw : V} {tab : List (Str × Bool)} (b : Bool) (ht : IsTab X.K X.mg cv tab) (hm0 : X.mg c0 = some (.ref C0)) (htb : tab.lookup c0 = some b) (hz : Zc (.ref C0) (some d0) oe) (hf : ∃ vs, oe.data = .fields vs)
    (ha : DE (X.suite a0 ((a0, oe) :: pn)) W a fa) (hc : PE (X.suite a0 ((a0, oe) :: pn)) (.Name T p2) (tC cw)) (hcw : ∀ u, RelV cw u → u = cv) (hm : X.mg "isinstance" = none) (hg : Gl X "isinstance" := by rfl)
    (hs : starEach [a, .Name T p2] X.env = (false, eval a X.env) :: starEach [.Name T p2] X.env := by rfl) :
    DE (X.suite a0 ((a0, oe) :: pn)) W (.Call (.Name "isinstance" p1) [a, .Name T p2] [] pos) (dIsC a0 d0 c0 b fa) := by
  obtain ⟨T1, T2⟩ := ht c0 b htb C0 hm0
  refine peI (pe_callB (call_isC T1 hz hf) hg hm (by decide +kernel) (pa_cons ha (pa_cons hc pa_nil) hs) (by decide) (by decide) hs (by rfl)) fun σ H Q h => ?_
  obtain ⟨mu, S, ρ, res, s, en, hf, q⟩ := h
  refine rd_bnd s en hf q fun d S1 v H1 m1 x s1 en1 rp h1 q1 => ?_
  cases rp with
  | @cau e C dd c ns vs xs hm hd n2 l r =>
    simp only at h1
    split at h1
    · rename_i hc
      obtain ⟨rfl, rfl, rfl⟩ := hc
      cases h1
      exact ⟨_, cw, cv, b, rfl, hcw, hd, T2, q1.val s1 (.bl b)⟩
    · cases h1
  | _ => cases h1

/-! ### try: body, except C as e: suite -/
/-- at the end of the suite the name is gone -/
def clr (i : Nat) : Option SRes → Option SRes
  | some (.nx ρ S) => some (.nx (ρ.set i none) S)
  | some (.bk ρ S) => some (.bk (ρ.set i none) S)
  | some (.ct ρ S) => some (.ct (ρ.set i none) S)
  | some (.rt d S) => some (.rt d S)
  | _ => none
open Classical in
noncomputable def unif (f : Nat → Nat → Option SRes) : Option SRes := if h : ∃ r, ∀ a d, f a d = some r then some h.choose else none
theorem unif_of {f : Nat → Nat → Option SRes} {r : SRes} (h : ∀ a d, f a d = some r) : unif f = some r := by
  unfold unif
  have h' : ∃ r, ∀ a d, f a d = some r := ⟨r, h⟩
  rw [dif_pos h']
  exact congrArg some (Option.some.inj ((h'.choose_spec 0 0).symm.trans (h 0 0)))
theorem unif_at {f : Nat → Nat → Option SRes} {r : SRes} (h : unif f = some r) (a d : Nat) : f a d = some r := by
  unfold unif at h
  split at h
  · rename_i h'
    rw [← Option.some.inj h]
    exact h'.choose_spec a d
  · cases h
noncomputable def sTry (tab : List (Str × Bool)) (i : Nat) (g : SDen) (gs : Str → Nat → Nat → SDen) : SDen := fun ρ S => match g ρ S with
  | some (.exc c ns xs ρ1 S1) => match tab.lookup c with
    | some true => unif fun a d => clr i (gs c a d (ρ1.set i (some (.cau a d c ns xs))) S1)
    | some false => some (.exc c ns xs ρ1 S1)
    | none => none
  | r => r
def ExTab (K : PySem.W.Frag) (mg : Str → Option Value) (cv : Value) (tab : List (Str × Bool)) : Prop := ∀ c b, tab.lookup c = some b → ∀ C, mg c = some (.ref C) → PySem.W.exmOne K (.ref C) cv = some b
theorem ds_try {x n : Str} {cv : Value} {body suite : List Stmt} {b₀ : Stmt} {np pos' : Pos} {tab : List (Str × Bool)} {gs : Str → Nat → Nat → SDen} (i : Nat) (ht : ExTab X.K X.mg cv tab) (hs : X.stack = X.env :: X.outer) (hf : X.env.frame = some X.env.locals) (hN : X.N.Nodup) (tk : L2N.Takes X W)
    (hc : Names X x cv)
    (hb : ∀ (W : WX) (pn : List (Addr × Obj)) (xe : Value → Shared → Prop), L2N.Takes (X.tr pn xe) W → PassesOwn (model X.prog X.w) X.A X.env xe → DSs (X.tr pn xe) W body g)
    (hsu : ∀ (a : Addr) (oe : Obj) (c : Str) (C d : Addr) (pn : List (Addr × Obj)), X.mg c = some (.ref C) → tab.lookup c = some true → L2N.Zn (.ref C) (some d) oe → (∃ vs, oe.data = .fields vs) → DSs (X.suite a ((a, oe) :: pn)) W0 (b₀ :: suite) (gs c a d))
    (hi : X.N[i]? = some n := by rfl) (hln : X.env.kindOf n = some .local := by rfl) :
    DS X W (.Try body [.ExceptHandler (some (.Name x np)) (some n) (b₀ :: suite) pos'] [] [] pos) (sTry tab i g gs) := by
  refine psI (L2N.ps_try_as (tb := fun W => rdS X.K X.mg W g) (ts := fun a cls d D σ H => ∃ (c : Str) (C dd : Addr), cls = .ref C ∧ d = some dd ∧ X.mg c = some (.ref C) ∧ tab.lookup c = some true ∧ rdS X.K X.mg W0 (gs c a dd) D σ H) hs hf hN hi hln hc tk hb fun a oe cls d pn hz hf => ⟨fun pins s σ H D I h => ?_⟩) fun D σ H q => ?_
  · obtain ⟨c, C, dd, rfl, rfl, hm, hl, h⟩ := h
    exact (hsu a oe c C dd pn hm hl hz hf).run pins s σ H D I h
  · obtain ⟨mu, S, ρ, r, s, en, hg, q⟩ := q
    unfold sTry at hg
    cases e : g ρ S with
    | none => rw [e] at hg; cases hg
    | some r1 =>
      rw [e] at hg
      refine ⟨mu, S, ρ, r1, s, en, e, ?_⟩
      cases r1 with
      | nx ρ1 S1 => cases hg; exact q
      | bk ρ1 S1 => cases hg; exact q
      | ct ρ1 S1 => cases hg; exact q
      | rt d S1 => cases hg; exact q
      | exc c ns xs ρ1 S1 =>
        simp only at hg
        intro σ1 H1 m1 x1 en1 C dx vs H2 m2 x2 s2 hm hd hn hl rp
        cases hb : tab.lookup c with
        | none => rw [hb] at hg; cases hg
        | some b =>
          rw [hb] at hg
          refine ⟨b, ht c b hb C hm, fun hbt a ha => ?_, fun hbf => ?_⟩
          · subst hbt
            have hu := unif_at hg a dx
            have en2 : EnvOk X.K X.mg H2 m2 (σ1.set i (some (.ref a))) (ρ1.set i (some (.cau a dx c ns xs))) := (en1.mono x2).set (.cau hm hd hn hl rp) i
            have q2 := q.mono (x1.trans x2)
            cases e2 : gs c a dx (ρ1.set i (some (.cau a dx c ns xs))) S1 with
            | none => rw [e2] at hu; cases hu
            | some r2 =>
              rw [e2] at hu
              refine ⟨c, C, dx, rfl, rfl, hm, hb, m2, S1, _, r2, s2, en2, e2, ?_⟩
              cases r2 with
              | nx ρ2 S2 => cases hu; exact fun σ' H' mu' y s' en' => q2 _ H' mu' y s' (en'.forget i none)
              | bk ρ2 S2 => cases hu; exact fun σ' H' mu' y s' en' => q2 _ H' mu' y s' (en'.forget i none)
              | ct ρ2 S2 => cases hu; exact fun σ' H' mu' y s' en' => q2 _ H' mu' y s' (en'.forget i none)
              | rt d S2 => cases hu; exact q2
              | exc c2 ns2 xs2 ρ2 S2 => cases hu
          · subst hbf
            cases hg
            exact q σ1 H1 m1 x1 en1 C dx vs H2 m2 x2 s2 hm hd hn hl rp
end
end PD
set_option Elab.async false
set_option linter.all false
set_option maxRecDepth 100000
set_option maxHeartbeats 4000000
namespace PD
open PySem PySem.Spec PyProof.Rows L2
section
variable {X : Cx} {W : WX} {a b c e o i tg iter elt : Expr} {es : List Expr} {fa fb fc : Den} {ga gb : Dens} {pos p p1 p2 : Pos} {st : Stmt} {sts rest : List Stmt} {g h : SDen}

/-! ### calls of small defs in an except suite -/
abbrev FnDH (P : Program) (w : World) (K : PySem.W.Frag) (mg : Str → Option Value) (base : Heap) (k : Nat) (f : Addr) (fd : FuncData) (ps : List Str) (F : Op) : Prop := L2H.FnH P w K mg base (L2N.CX P w) k f fd ps (spD K mg ps.length F)
theorem fn_denH {P : Program} {w : World} {K : PySem.W.Frag} {mg : Str → Option Value} {base : Heap} {x qual : Str} {params : Arguments} {body : List Stmt} {scope : Scope} {dvs : List V} {kws : List (Str × V)} {f : Addr} {fd : FuncData} {N ps : List Str} {k : Nat} {g : SDen}
    (F : FunD K x qual params body scope dvs kws f fd) (Sc : FnScope N ps scope)
    (hb : ∀ (cdv : Value) (A : Around) (outer : List Env) (s : Shared) (H : Hp) (E : XK) (pn : Addr × Obj), L2H.Hot1 A pn → L2H.RoomH k (A.deeper (envOfC qual scope s.heap.objs.size f cdv)) →
      L2N.Takes (L2H.cxH (L2N.CX P w) P w K mg base N qual scope f cdv A outer s H E pn) (fun cls d _ H => E cls d H) →
      DSs (L2H.cxH (L2N.CX P w) P w K mg base N qual scope f cdv A outer s H E pn) (fun cls d _ H => E cls d H) body g) : FnDH P w K mg base (k + 1) f fd ps (fnOf N g) := by
  obtain ⟨oc, od, dV, kV, doc, pm, an, cdv, ct, osl, rfl, lk, hcd, _, _⟩ := F.ex
  exact L2H.fn_ofH lk hcd Sc (fun vs H Q E h => h.1) fun A outer s H vs Q E pn hot hr h => ⟨_, hb cdv A outer s H E pn hot hr (L2N.takes_of rfl rfl rfl rfl), den_end h⟩
theorem hot_suite {a0 : Addr} {cv : Value} {d : Option Addr} {oe : Obj} {pn : List (Addr × Obj)} (hz : L2N.Zn cv d oe) (hf : ∃ vs, oe.data = .fields vs) : L2H.HotC (X.suite a0 ((a0, oe) :: pn)) := by
  obtain ⟨vs, hv⟩ := hf
  exact ⟨(a0, oe), ⟨rfl, vs, hv, hz.2.2 vs hv⟩, List.mem_cons_self⟩
theorem hot_body {CX : CXT} {P : Program} {w : World} {K : PySem.W.Frag} {mg : Str → Option Value} {base : Heap} {N : List Str} {qual : Str} {scope : Scope} {f : Addr} {cd : Value} {A : Around} {outer : List Env} {s : Shared} {H : Hp} {E : XK} {pn : Addr × Obj} (hot : L2H.Hot1 A pn) :
    L2H.HotC (L2H.cxH CX P w K mg base N qual scope f cd A outer s H E pn) := ⟨pn, hot, List.mem_cons_self⟩
theorem de_callH {k : Nat} {f : Addr} {fd : FuncData} {ps : List Str} {F : Op} {x : Str} (G : FnDH X.prog X.w X.K X.mg X.base k f fd ps F) (hr : L2H.RoomH k X.A) (hc : L2H.HotC X) (tk : L2N.Takes X W) (hm : X.mg x = some (.ref f)) (hk : PySem.W.keepIn X.K (.ref f) = true) (hb : Binds X.K fd ps [])
    (ha : DA X W (e :: es) ga) (hg : Gl X x := by rfl) (hdb : (x == ("__debug__" : Str)) = false := by decide) (he : starEach (e :: es) X.env = (false, eval e X.env) :: starEach es X.env := by rfl) (hpl : (backTo pos (starEach es X.env)).any (·.1) = false := by rfl) :
    DE X W (.Call (.Name x p) (e :: es) [] pos) (dFn ps.length F ga) := by
  refine peI (L2H.pe_callH (E := WE W) G hr hc hg hm hk hb (fun σ => L2N.passAt tk σ) ha hdb he hpl) fun σ H Q h => ?_
  obtain ⟨mu, S, ρ, res, s, en, hf, q⟩ := h
  refine rds_bndl s en hf q fun ds S1 vs H1 m1 x s1 en1 rp h1 q1 => ?_
  split at h1
  · rename_i hl
    exact spD_of s1 rp hl h1 q1
  · cases h1

/-! ### calls by keywords alone -/
def DK (X : Cx) (W : WX) (kws : List Keyword) (g : Dens) : Prop := PK X kws (rds X.K X.mg W g)
theorem pkI {kws : List Keyword} {t t' : TA} (h : PK X kws t) (i : ∀ σ H Q, t' σ H Q → t σ H Q) : PK X kws t' := ⟨fun pos pins s σ H Q I q => h.run pos pins s σ H Q I (i σ H Q q)⟩
theorem dk_nil : DK X W [] dNil := by
  refine pkI pk_nil fun σ H Q h => ?_
  obtain ⟨mu, S, ρ, r, s, en, hf, q⟩ := h
  cases hf
  exact q [] H mu (Ext.refl _ _) s .nil
theorem dk_cons {nm : Option Str} {kpos : Pos} {kws : List Keyword} (ha : DE X W e fa) (hr : DK X W kws ga) : DK X W (⟨nm, e, kpos⟩ :: kws) (dCons fa ga) := by
  refine pkI (pk_cons ha hr) fun σ H Q h => ?_
  obtain ⟨mu, S, ρ, r, s, en, hf, q⟩ := h
  refine rd_bnds s en hf q fun d S1 v H1 m1 x s1 en1 rp h1 q1 => ?_
  refine rds_bndls s1 en1 h1 q1 fun ds S2 vs H2 m2 x2 s2 en2 rp2 h2 q2 => ?_
  cases h2
  exact q2 _ H2 m2 (Ext.refl _ _) s2 (.cons (rp.mono x2) rp2)
/-- the keywords' values ws, named ks, in the parameters' order: ix tells each parameter's place among them -/
structure KwB (K : PySem.W.Frag) (fd : FuncData) (ps ks : List Str) (ix : List Nat) : Prop where
  to : ∀ (s : Shared) (ws : List Value), K.In s.heap → ws.length = ks.length → BindsTo s fd ⟨[], ks.zip ws⟩ (ps.zip (permL ix ws))
theorem perm_vals {ix : List Nat} {vs : List V} {us : List Value} (r : Vals vs us) : Vals (permL ix vs) (permL ix us) := by
  induction ix with
  | nil => exact .nil
  | cons i ix ih =>
    unfold permL at ih ⊢
    rw [List.filterMap_cons, List.filterMap_cons]
    cases e : vs[i]? with
    | none =>
      have : us[i]? = none := List.getElem?_eq_none (by rw [← r.length]; exact List.getElem?_eq_none_iff.mp e)
      rw [this]
      exact ih
    | some v =>
      obtain ⟨u, hu, rv⟩ := r.get e
      rw [hu]
      exact .cons rv ih
theorem perm_reps {K : PySem.W.Frag} {mg : Str → Option Value} {H : Hp} {mu : List Addr} {ix : List Nat} {vs : List V} {ds : List D} (r : Reps K mg H mu vs ds) : Reps K mg H mu (permL ix vs) (permL ix ds) := by
  induction ix with
  | nil => exact .nil
  | cons i ix ih =>
    unfold permL at ih ⊢
    rw [List.filterMap_cons, List.filterMap_cons]
    cases e : ds[i]? with
    | none =>
      have : vs[i]? = none := List.getElem?_eq_none (by rw [r.length]; exact List.getElem?_eq_none_iff.mp e)
      rw [this]
      exact ih
    | some d =>
      obtain ⟨v, hv, rv⟩ := r.get e
      rw [hv]
      exact .cons rv ih
def tCallKw (sp : Sp) (ix : List Nat) (m : Nat) (E : L2.St → XK) (tk : TA) : TE := fun σ H Q => tk σ H fun zs H2 => zs.length = m ∧ sp (permL ix zs) H2 Q (E σ)
theorem pe_callKw {CX : CXT} {k : Nat} {f : Addr} {fd : FuncData} {ps ks : List Str} {sp : Sp} {ix : List Nat} {x : Str} {kws : List Keyword} {tk : TA} {E : L2.St → XK} (F : FnOk X.prog X.w X.K X.mg X.base CX k f fd ps sp) (hr : Room k X.A) (hg : Gl X x) (hm : X.mg x = some (.ref f)) (hk : PySem.W.keepIn X.K (.ref f) = true)
    (hb : KwB X.K fd ps ks ix) (hx : ∀ σ, PassesAt CX X σ (E σ)) (hkw : PK X kws tk) (hall : (backToKw pos (keywordEach kws X.env)).all (·.1.isSome) = true := by rfl) (hks : (backToKw pos (keywordEach kws X.env)).filterMap (·.1) = ks := by rfl)
    (hdb : (x == ("__debug__" : Str)) = false := by decide) (hpl : ((backTo pos (starEach [] X.env)).any (·.1) || (backToKw pos (keywordEach kws X.env)).any (·.1.isNone)) = false := by rfl) :
    PE X (.Call (.Name x p) [] kws pos) (tCallKw sp ix ks.length E tk) := by
  refine ⟨fun pins s σ H Q J h => wpAny_Call_Name_kw (ld_glob J hg hm (PySem.W.callWith_KW0 (h₀ := X.base) J.ok.mod.kin hk hall (thn (hkw.run pos pins s σ H _ J h) fun ws s2 ⟨zs, H2, J2, rz, hl, q2⟩ => ⟨J2.kIn, ?_⟩) hpl) hdb)⟩
  rw [hks]
  refine wpAny_call (codeAny_mono (F.run X.A X.stack s2 H2 ⟨[], ks.zip ws⟩ (permL ix ws) (permL ix zs) Q (E σ) hr J2.env0 (hb.to s2 ws J2.kIn (rz.length.symm.trans hl)) (perm_vals rz) q2) fun r z hc => ?_)
  match r, hc with
  | .error er, hc => exact hx σ pins H2 s2 er z J2 hc
  | .ok (.ret u), hc => exact J2.after hc
  | .ok .next, hc => exact hc.elim
  | .ok .brk, hc => exact hc.elim
  | .ok .cont, hc => exact hc.elim
def dFnK (n m : Nat) (ix : List Nat) (F : Op) (g : Dens) : Den := fun ρ S => bndl (g ρ S) fun ds S1 => if ds.length = m ∧ (permL ix ds).length = n then F (permL ix ds) S1 else none
theorem de_callK {k : Nat} {f : Addr} {fd : FuncData} {ps ks : List Str} {F : Op} {x : Str} {kws : List Keyword} (ix : List Nat) (G : FnD X.prog X.w X.K X.mg X.base k f fd ps F) (hr : Room k X.A) (tk : L2N.Takes X W) (hm : X.mg x = some (.ref f)) (hk : PySem.W.keepIn X.K (.ref f) = true) (hb : KwB X.K fd ps ks ix)
    (ha : DK X W kws ga) (hg : Gl X x := by rfl) (hall : (backToKw pos (keywordEach kws X.env)).all (·.1.isSome) = true := by rfl) (hks : (backToKw pos (keywordEach kws X.env)).filterMap (·.1) = ks := by rfl)
    (hdb : (x == ("__debug__" : Str)) = false := by decide) (hpl : ((backTo pos (starEach [] X.env)).any (·.1) || (backToKw pos (keywordEach kws X.env)).any (·.1.isNone)) = false := by rfl) :
    DE X W (.Call (.Name x p) [] kws pos) (dFnK ps.length ks.length ix F ga) := by
  refine peI (pe_callKw (E := WE W) G hr hg hm hk hb (fun σ => L2N.passAt tk σ) ha hall hks hdb hpl) fun σ H Q h => ?_
  obtain ⟨mu, S, ρ, res, s, en, hf, q⟩ := h
  refine rds_bndl s en hf q fun ds S1 vs H1 m1 x s1 en1 rp h1 q1 => ?_
  split at h1
  · rename_i hl
    exact ⟨rp.length.trans hl.1, spD_of s1 (perm_reps rp) hl.2 h1 q1⟩
  · cases h1
end
end PD
set_option Elab.async false
set_option linter.all false
set_option maxRecDepth 100000
set_option maxHeartbeats 4000000
set_option exponentiation.threshold 20000
namespace PySem.W
open PySem PySem.Spec PySem.Calls PyProof.Rows PyProof.V
section
variable {prog : Program} {w : World} {A : Around} {E : Value → Shared → Prop} {s : Shared} {t : Addr}
theorem my_maxG {xs : Array (Int × Tok)} {Q : Value → Shared → Prop} (hh : A.handled = none) (ht : s.heap.IsTuple t (intItems xs)) (hne0 : 0 < xs.size)
    (h : ∀ v h' tk, (intItems xs)[argBest (fun i j => decide (numAt xs i > numAt xs j)) (xs.size - 1)]? = some v → (∀ b o, s.heap.get? b = some o → h'.get? b = some o) → Q v { s with heap := h', toks := tk }) :
    wpAny (model prog w) A (call (.builtin "max") [.ref t]) Q E s := by
  obtain ⟨o, ho, hc, n, hd⟩ := id ht
  have hne : t ≠ s.heap.objs.size := Nat.ne_of_lt (Heap.lt_size ho)
  have hsz : (intItems xs).size = xs.size := by simp [intItems]
  refine call_max_walk (wpAny_pyIter_tuple ht ?_)
  refine ⟨_, [_, t], [_], _, _, _, _, rfl, Walks.tuple (A := A.in1) hh s.heap.objs.size t hne (intItems xs), ⟨⟨_, Heap.get?_push_size _ rfl, rfl, rfl⟩, ht.at fun o e => Heap.get?_push_of_some _ e⟩, fun b hb => ?_, by rw [hsz]; exact hne0, CmpOf.ints_gt (numAt xs) (fun _ _ => intItems_at), fun v h' tk hP hk => ?_⟩
  · rcases List.mem_cons.mp hb with rfl | hb
    · exact Heap.lt_size (Heap.get?_push_size _ rfl)
    · obtain rfl := List.mem_singleton.mp hb
      exact Heap.lt_size (Heap.get?_push_of_some _ ho)
  · exact h v h' tk (by rw [← hsz]; exact hP) fun b o e => hk b o (fun hb => absurd (Heap.lt_size e) ((List.mem_singleton.mp hb) ▸ Nat.lt_irrefl _)) (Heap.get?_push_of_some _ e)
end
end PySem.W
namespace PD
open PySem PySem.Spec PyProof.Rows L2
section
variable {prog : Program} {w : World} {A : Around} {E : Value → Shared → Prop} {s : Shared} {t : Addr}
theorem max_rawT {Q : Value → Shared → Prop} {its : List Value} {ns : List Int} (hh : A.handled = none) (hl : s.heap.IsTuple t its.toArray) (hi : IntsAre its ns) (hne : 0 < ns.length)
    (h : ∀ h' tk M t', (∀ b o, s.heap.get? b = some o → h'.get? b = some o) → M ∈ ns → (∀ a, a ∈ ns → a ≤ M) → Q (.int M t') { s with heap := h', toks := tk }) : wpAny (model prog w) A (call (.builtin "max") [.ref t]) Q E s := by
  obtain ⟨xs, e⟩ := hi.allInts.items
  have hn : numsOf (intItems xs).toList = ns := by rw [← e]; exact hi.numsOf
  rw [nums_intItems] at hn
  subst hn
  rw [e] at hl
  have hsz : 0 < xs.size := by simpa using hne
  refine PySem.W.my_maxG hh hl hsz fun v h' tk hv hk => ?_
  obtain ⟨t, rfl⟩ := intItems_at hv
  obtain ⟨h1, h2⟩ := argBest_gt (numAt xs) (xs.size - 1)
  refine h h' tk _ t hk ?_ fun a ha => ?_
  · rw [numAt_eq]; exact PySem.getD_mem (by rw [List.length_map, Array.length_toList]; omega)
  · obtain ⟨j, hj, rfl⟩ := mem_getD ha
    rw [List.length_map, Array.length_toList] at hj
    rw [← numAt_eq]; exact h2 j (by omega)
end
end PD
namespace PD
open PySem PySem.Spec PyProof.Rows L2
section
variable {X : Cx} {W : WX} {a b c e o i tg iter elt : Expr} {es : List Expr} {fa fb fc : Den} {ga gb : Dens} {pos p p1 p2 : Pos} {st : Stmt} {sts rest : List Stmt} {g h : SDen}

/-! ### sum, abs, lcm, the least and the greatest of a list -/
abbrev rSumA (K : PySem.W.Frag) : List V → Hp → VK → Prop := fun vs H Q => ∃ (a : Addr) (ns : List Int), vs = [V.ref a] ∧ (SqL K H a (ns.map V.int) ∨ SqT K H a (ns.map V.int)) ∧ Q (.int ns.sum) H
theorem call_sumA (hc : X.calm = true) : CallR X (.builtin "sum") (rSumA X.K) := by
  intro pins s σ H vs us Q J r h
  obtain ⟨a, ns, rfl, hs | hs, q⟩ := h
  · exact cr_sum hc pins s σ H _ us Q J r ⟨a, ns, rfl, hs, q⟩
  · obtain ⟨its, rv, hl, _⟩ := J.tuple hs
    rw [Vals.ref1 r]
    have hi := rv.ints
    obtain ⟨xs, e⟩ := hi.allInts.items
    have hn : numsOf (intItems xs).toList = ns := by rw [← e]; exact hi.numsOf
    rw [nums_intItems] at hn
    rw [e] at hl
    refine PySem.W.ktm_sumG (J.ok.hd hc) hl fun h' tk t' hk => ⟨.int ns.sum, H, J.kept hk, ?_, q⟩
    rw [preSum_eq, List.take_of_length_le (by simp), hn]
    exact ⟨_, rfl⟩
def oSum : Op := fun ds S => match ds with
  | [d] => (asSeq S d).bind fun xs => (intsD xs).map fun ns => .ok (.int ns.sum) S
  | _ => none
theorem callD_sum : CallD X (rSumA X.K) oSum := by
  intro H mu S vs ds res W σ Q s r ho q
  match ds, ho with
  | [d], ho =>
    obtain ⟨v, rfl, rv⟩ := reps1 r
    obtain ⟨xs, h1, h2⟩ := bind_two ho
    obtain ⟨ns, h3, rfl⟩ := Option.map_eq_some_iff.mp h2
    obtain ⟨a, ws, rfl, hq, rw_⟩ := rep_seq s rv h1
    have e := ints_ok rw_ h3
    subst e
    exact ⟨a, ns, rfl, hq, q.val s (.int _)⟩
def oAbs : Op := fun ds S => match ds with
  | [.int i] => some (.ok (.int (if i < 0 then -i else i)) S)
  | _ => none
theorem callD_abs : CallD X (fun xs H Q => ∃ i, xs = [.int i] ∧ Q (.int (if i < 0 then -i else i)) H) oAbs := by
  intro H mu S vs ds res W σ Q s r ho q
  unfold oAbs at ho
  split at ho
  · cases ho
    obtain ⟨v, rfl, r1⟩ := reps1 r
    cases r1
    exact ⟨_, rfl, q.val s (.int _)⟩
  · cases ho
/-- lcm of two numbers of less than 9,000 bits -/
theorem big_lcm {prog : Program} {w : World} {A : Around} {E : Value → Shared → Prop} {s : Shared} {a b : Int} {t u : Tok} {Q : Value → Shared → Prop} (ha : a.natAbs < 2 ^ 9000) (hb : b.natAbs < 2 ^ 9000)
    (h : Q (.int ((a.natAbs.lcm b.natAbs : Nat) : Int) s.toks) { s with toks := s.toks + 1 }) : wpAny (model prog w) A (call (.builtin "math.lcm") [.int a t, .int b u]) Q E s := by
  have lg : ∀ n : Nat, n < 2 ^ 9000 → n.log2 ≤ 8999 := fun n hn => PySem.W.mg_log (k := 8999) hn
  have one : 1 < 2 ^ 9000 := Nat.one_lt_two_pow (by decide)
  have h1 : (max 1 a.natAbs).log2 ≤ 8999 := lg _ (by omega)
  have h2 : (max a.natAbs b.natAbs).log2 ≤ 8999 := lg _ (by omega)
  have hm : a.natAbs.lcm b.natAbs ≤ 2 ^ (64 * 282) := by
    have l1 := PySem.W.mc_lcm_le a.natAbs b.natAbs
    have l2 : a.natAbs * b.natAbs ≤ 2 ^ 9000 * 2 ^ 9000 := Nat.mul_le_mul (Nat.le_of_lt ha) (Nat.le_of_lt hb)
    rw [← Nat.pow_add] at l2
    exact Nat.le_trans l1 (Nat.le_trans l2 (Nat.pow_le_pow_right (by decide) (by decide)))
  have hl : (a.natAbs.lcm b.natAbs).log2 < bitsLine := PySem.W.mc_size hm (by decide)
  have e : ((Nat.lcm 1 a.natAbs).lcm b.natAbs) = a.natAbs.lcm b.natAbs := by rw [PySem.W.mc_lcm_one]
  refine call_function_meets PySem.W.MGF.kind_lcm PySem.W.MGF.plain_lcm PySem.W.MGF.entry_lcm (PySem.W.MGF.args_lcm _ _) (PySem.W.mg_run_lcm a t b u (by omega) (by omega) (by rw [e]; exact hl)).meets ?_
  rw [e]
  exact h
abbrev rLcm : List V → Hp → VK → Prop := fun vs H Q => ∃ i j : Int, vs = [.int i, .int j] ∧ i.natAbs < 2 ^ 9000 ∧ j.natAbs < 2 ^ 9000 ∧ Q (.int ((Nat.lcm i.natAbs j.natAbs : Nat) : Int)) H
theorem call_lcm : CallR X (.builtin "math.lcm") rLcm := by
  intro pins s σ H vs us Q J r h
  obtain ⟨i, j, rfl, h1, h2, q⟩ := h
  obtain ⟨t, u, rfl⟩ := Vals.int2 r
  exact big_lcm h1 h2 ⟨.int _, H, J.tok _, ⟨_, rfl⟩, q⟩
def oLcm : Op := fun ds S => match ds with
  | [.int i, .int j] => if i.natAbs < 2 ^ 9000 ∧ j.natAbs < 2 ^ 9000 then some (.ok (.int ((Nat.lcm i.natAbs j.natAbs : Nat) : Int)) S) else none
  | _ => none
theorem callD_lcm : CallD X rLcm oLcm := by
  intro H mu S vs ds res W σ Q s r ho q
  unfold oLcm at ho
  split at ho
  · split at ho
    · rename_i hz
      cases ho
      obtain ⟨v, v2, rfl, r1, r2⟩ := reps2 r
      cases r1; cases r2
      exact ⟨_, _, rfl, hz.1, hz.2, q.val s (.int _)⟩
    · cases ho
  · cases ho
def greatest : List Int → Option Int
  | [] => none
  | x :: xs => match greatest xs with
    | none => some x
    | some y => some (if x < y then y else x)
def least : List Int → Option Int
  | [] => none
  | x :: xs => match least xs with
    | none => some x
    | some y => some (if y < x then y else x)
theorem greatest_ok : ∀ {xs : List Int} {m : Int}, greatest xs = some m → m ∈ xs ∧ ∀ y ∈ xs, y ≤ m
  | [], _, h => by cases h
  | x :: xs, m, h => by
    unfold greatest at h
    split at h
    · rename_i hn
      cases h
      have : xs = [] := by
        cases xs with
        | nil => rfl
        | cons z zs => unfold greatest at hn; split at hn <;> cases hn
      subst this
      simp
    · rename_i y hy
      obtain ⟨h1, h2⟩ := greatest_ok hy
      cases h
      split
      · exact ⟨List.mem_cons_of_mem _ h1, fun z hz => by rcases List.mem_cons.mp hz with e | e; (subst e; omega); exact h2 z e⟩
      · exact ⟨List.mem_cons_self, fun z hz => by rcases List.mem_cons.mp hz with e | e; (subst e; omega); (have := h2 z e; omega)⟩
theorem least_ok : ∀ {xs : List Int} {m : Int}, least xs = some m → m ∈ xs ∧ ∀ y ∈ xs, m ≤ y
  | [], _, h => by cases h
  | x :: xs, m, h => by
    unfold least at h
    split at h
    · rename_i hn
      cases h
      have : xs = [] := by
        cases xs with
        | nil => rfl
        | cons z zs => unfold least at hn; split at hn <;> cases hn
      subst this
      simp
    · rename_i y hy
      obtain ⟨h1, h2⟩ := least_ok hy
      cases h
      split
      · exact ⟨List.mem_cons_of_mem _ h1, fun z hz => by rcases List.mem_cons.mp hz with e | e; (subst e; omega); exact h2 z e⟩
      · exact ⟨List.mem_cons_self, fun z hz => by rcases List.mem_cons.mp hz with e | e; (subst e; omega); (have := h2 z e; omega)⟩
abbrev rMaxA (K : PySem.W.Frag) : List V → Hp → VK → Prop := fun vs H Q => ∃ (a : Addr) (ns : List Int), vs = [V.ref a] ∧ (SqL K H a (ns.map V.int) ∨ SqT K H a (ns.map V.int)) ∧ 0 < ns.length ∧ ∀ m, m ∈ ns → (∀ y, y ∈ ns → y ≤ m) → Q (.int m) H
theorem call_maxA (hc : X.calm = true) : CallR X (.builtin "max") (rMaxA X.K) := by
  intro pins s σ H vs us Q J r h
  obtain ⟨a, ns, rfl, hs | hs, hne, q⟩ := h
  · exact cr_max hc pins s σ H _ us Q J r ⟨a, ns, rfl, hs, hne, q⟩
  · obtain ⟨its, rv, hl, _⟩ := J.tuple hs
    rw [Vals.ref1 r]
    exact max_rawT (J.ok.hd hc) hl rv.ints hne fun h' tk m t' hk h1 h2 => ⟨.int m, H, J.kept hk, ⟨_, rfl⟩, q m h1 h2⟩
def oMaxL : Op := fun ds S => match ds with
  | [d] => (asSeq S d).bind fun xs => (intsD xs).bind fun ns => (greatest ns).map fun m => .ok (.int m) S
  | _ => none
def oMinL : Op := fun ds S => match ds with
  | [d] => (asList S d).bind fun xs => (intsD xs).bind fun ns => (least ns).map fun m => .ok (.int m) S
  | _ => none
theorem callD_maxL : CallD X (rMaxA X.K) oMaxL := by
  intro H mu S vs ds res W σ Q s r ho q
  match ds, ho with
  | [d], ho =>
    obtain ⟨v, rfl, rv⟩ := reps1 r
    obtain ⟨xs, h1, h2⟩ := bind_two ho
    obtain ⟨ns, h3, h4⟩ := bind_two h2
    obtain ⟨m, h5, rfl⟩ := Option.map_eq_some_iff.mp h4
    obtain ⟨a, ws, rfl, hq, rw_⟩ := rep_seq s rv h1
    have e := ints_ok rw_ h3
    subst e
    obtain ⟨h6, h7⟩ := greatest_ok h5
    refine ⟨a, ns, rfl, hq, List.length_pos_of_mem h6, fun k hk1 hk2 => ?_⟩
    have : k = m := Int.le_antisymm (h7 k hk1) (hk2 m h6)
    subst this
    exact q.val s (.int _)
theorem callD_minL : CallD X (rMin X.K) oMinL := by
  intro H mu S vs ds res W σ Q s r ho q
  match ds, ho with
  | [d], ho =>
    obtain ⟨v, rfl, rv⟩ := reps1 r
    obtain ⟨xs, h1, h2⟩ := bind_two ho
    obtain ⟨ns, h3, h4⟩ := bind_two h2
    obtain ⟨m, h5, rfl⟩ := Option.map_eq_some_iff.mp h4
    obtain ⟨a, ws, rfl, hq, rw_⟩ := rep_list s rv h1
    have e := ints_ok rw_ h3
    subst e
    obtain ⟨h6, h7⟩ := least_ok h5
    refine ⟨a, ns, rfl, .of hq, List.length_pos_of_mem h6, fun k hk1 hk2 => ?_⟩
    have : k = m := Int.le_antisymm (hk2 m h6) (h7 k hk1)
    subst this
    exact q.val s (.int _)
end
end PD
set_option Elab.async false
set_option linter.all false
set_option maxRecDepth 100000
set_option maxHeartbeats 4000000
namespace PD
open PySem PySem.Spec PyProof.Rows L2 He
/-! ### what the written part says of the own error classes, as Booleans -/
theorem and2 {a b : Bool} (h : (a && b) = true) : a = true ∧ b = true := Bool.and_eq_true_iff.mp h
def oexB (K : PySem.W.Frag) (C : Addr) : Bool := (match K.lookup C with
  | some o => match o.cls, o.data with
    | .type t, .cls cd => t == "type" && (match cd.mro, o.slots.toList with
      | .ref D :: bm, [_, _, _, _, some (.builtin n), _] => D == C && (n == "ValueError.__new__" && (!cd.hasDel && (cd.hasDict && PySem.HandSPX.refsVE bm)))
      | _, _ => false)
    | _, _ => false
  | none => false) && (eqO (PySem.W.findIn K (.ref C) "__setattr__") (some (some (.builtin "object.__setattr__"))) && (decide (PySem.W.subIn K (.ref C) (.type "BaseException") = some true) && (decide (PySem.W.typeIn K (.ref C) = some (.type "type")) && PySem.W.keepIn K (.ref C))))
theorem oexB_ok {K : PySem.W.Frag} {C : Addr} (h : oexB K C = true) : OexC K C := by
  obtain ⟨h1, h⟩ := and2 h
  obtain ⟨h2, h⟩ := and2 h
  obtain ⟨h3, h⟩ := and2 h
  obtain ⟨h4, h5⟩ := and2 h
  refine ⟨?_, eqO_ok h2, of_decide_eq_true h3, of_decide_eq_true h4, h5⟩
  cases e : K.lookup C with
  | none => rw [e] at h1; cases h1
  | some o =>
    rw [e] at h1
    obtain ⟨oc, od, dt, sl⟩ := o
    cases oc with
    | type t =>
      cases dt with
      | cls cd =>
        obtain ⟨g1, g2⟩ := and2 h1
        have et : t = "type" := eq_of_beq g1
        subst et
        obtain ⟨nm, bs, mro, ns, qn, hd, sn, sub, ab, col, del⟩ := cd
        simp only at g2
        split at g2
        · rename_i D bm s1 s2 s3 s4 n s6 hs
          obtain ⟨k1, g2⟩ := and2 g2
          obtain ⟨k2, g2⟩ := and2 g2
          obtain ⟨k3, g2⟩ := and2 g2
          obtain ⟨k4, k5⟩ := and2 g2
          have e1 : D = C := eq_of_beq k1
          have e2 : n = "ValueError.__new__" := eq_of_beq k2
          have e3 : del = false := by cases del with
            | false => rfl
            | true => cases k3
          subst e1 e2 e3
          have e4 : hd = true := k4
          subst e4
          have e5 : sl = #[s1, s2, s3, s4, some (.builtin "ValueError.__new__"), s6] := by
            obtain ⟨l⟩ := sl
            simp only at hs
            rw [hs]
          subst e5
          exact ⟨nm, qn, ns, bs, bm, sn, sub, ab, col, od, s1, s2, s3, s4, s6, rfl, k5⟩
        · cases g2
      | _ => cases h1
    | _ => cases dt <;> cases h1
def erisB (K : PySem.W.Frag) (C : Addr) : Bool := eqO (PySem.W.findIn K (.ref C) "__getattribute__") (some (some (.builtin "BaseException.__getattribute__"))) && (eqO (PySem.W.findIn K (.ref C) "__getattr__") (some none) && (decide (PySem.W.subIn K (.ref C) (.type "BaseException") = some true) && (PySem.W.hasDictIn K C &&
  (eqO (PySem.W.findIn K (.ref C) "__class__") (some (some (.builtin "object.__class__"))) && (eqO (PySem.W.specialIn K (.builtin "object.__class__") "__get__") (some (some (.builtin "getset_descriptor.__get__"))) && (decide (PySem.W.takesIn K (.builtin "object.__class__") = some true) && decide (PySem.W.mroIn K C (.type "object") = some true)))))))
theorem erisB_ok {K : PySem.W.Frag} {C : Addr} (h : erisB K C = true) : ErrIs K C := by
  obtain ⟨h1, h⟩ := and2 h
  obtain ⟨h2, h⟩ := and2 h
  obtain ⟨h3, h⟩ := and2 h
  obtain ⟨h4, h⟩ := and2 h
  obtain ⟨h5, h⟩ := and2 h
  obtain ⟨h6, h⟩ := and2 h
  obtain ⟨h7, h8⟩ := and2 h
  exact ⟨eqO_ok h1, eqO_ok h2, of_decide_eq_true h3, h4, eqO_ok h5, eqO_ok h6, of_decide_eq_true h7, of_decide_eq_true h8⟩
theorem ErrIs.xf {K : PySem.W.Frag} {C : Addr} (h : ErrIs K C) : XfC K C := ⟨h.c1, h.c2, h.c3, h.c4⟩
/-- a class named: an own one of the module, or a built-in type -/
inductive Cn where
  | own (x : Str)
  | bty (T : String)
def Cn.val (K : PySem.W.Frag) : Cn → Value
  | .own x => .ref (ga K x)
  | .bty T => .type T
/-- facts of the classes of errors -/
inductive Fe where
  /-- an own class with an own __init__ -/
  | oex (x : Str)
  | no (x f : Str)
  | is_ (x : Str) (c : Cn) (b : Bool)
  | ex (x : Str) (c : Cn) (b : Bool)
  | con (x id : String)
def Fe.ok (K : PySem.W.Frag) : Fe → Bool
  | .oex x => oexB K (ga K x) && (erisB K (ga K x) && (eqO (PySem.W.findIn K (.ref (ga K x)) "__init__") (some (some (.ref (ma K (ga K x) "__init__")))) && decide (PySem.W.typeIn K (.ref (ma K (ga K x) "__init__")) = some (.type "function"))))
  | .no x f => eqO (PySem.W.findIn K (.ref (ga K x)) f) (some none)
  | .is_ x c b => decide (PySem.W.kitOne K (.ref (ga K x)) (c.val K) = some b)
  | .ex x c b => decide (PySem.W.exmOne K (.ref (ga K x)) (c.val K) = some b)
  | .con x id => eqO (PySem.W.nsIn K mainGlobals (Str.ofString x)) (some (some (.builtin id)))
abbrev AlE : Type := Bool × AlD
def obsE (fa : List Fa) (fn : List DefD) (fe : List Fe) (K : PySem.W.Frag) : AlE := (fe.all fun f => f.ok K, obsD fa fn K)
def valE (fn : List DefD) : AlE := (true, valD fn)
def SaysE (fa : List Fa) (fn : List DefD) (fe : List Fe) (K : PySem.W.Frag) : Prop := obsE fa fn fe K = valE fn
def obsEG (n : Nat) (fa : List Fa) (fn : List DefD) (fe : List Fe) (g : Addr → Option Obj) : AlE := obsE fa fn fe (frG g (asD g n))
def hookE (n : Nat) (fa : List Fa) (fn : List DefD) (fe : List Fe) : PySem.W.Hook where
  α := AlE
  obs := fun s => obsEG n fa fn fe s.heap.get?
  val := fun _ => valE fn
  says := fun _ h => ∃ K : PySem.W.Frag, K.In h ∧ SaysE fa fn fe K
  of := fun _ _ e => ⟨_, frG_in, e⟩
  keeps := fun _ _ _ ⟨K, hK, c⟩ k => ⟨K, PySem.W.Frag.In.keeps hK k, c⟩
theorem obsEG_eq {n : Nat} {fa : List Fa} {fn : List DefD} {fe : List Fe} {g : Addr → Option Obj} {s : Shared} (h : ∀ a, g a = s.heap.get? a) : obsEG n fa fn fe g = (hookE n fa fn fe).obs s := by
  have e : g = s.heap.get? := funext h
  rw [e] <;> rfl
section
variable {fa : List Fa} {fn : List DefD} {fe : List Fe} {K : PySem.W.Frag}
theorem SaysE.d (c : SaysE fa fn fe K) : SaysD fa fn K := congrArg (fun z : AlE => z.2) c
theorem SaysE.err (c : SaysE fa fn fe K) {f : Fe} (h : f ∈ fe) : f.ok K = true := by
  have h1 : (fe.all fun f => f.ok K) = true := congrArg (fun z : AlE => z.1) c
  exact List.all_eq_true.mp h1 f h
end
end PD
set_option Elab.async false
set_option linter.all false
set_option maxRecDepth 100000
set_option maxHeartbeats 4000000
namespace PD
open PySem PySem.Spec PyProof.Rows L2
section
variable {X : Cx} {W : WX} {a b c e o i tg iter elt : Expr} {es : List Expr} {fa fb fc : Den} {ga gb : Dens} {pos p p1 p2 : Pos} {st : Stmt} {sts rest : List Stmt} {g h : SDen}

/-! ### a call that is handed lists which may change: it sees them as they stand, and gives back no list -/
mutual
def plain : D → Bool
  | .tup xs => plains xs
  | .non => true
  | .bl _ => true
  | .int _ => true
  | .str _ => true
  | _ => false
def plains : List D → Bool
  | [] => true
  | x :: xs => plain x && plains xs
end
section
variable {K : PySem.W.Frag} {mg : Str → Option Value} {H H1 : Hp} {mu m1 : List Addr} {S S1 : Store}
theorem no_tup (s : StOk K mg H mu S) {a : Addr} {xs : List V} (h : Rd H a (.tup xs)) : a ∉ mu := fun z => by
  obtain ⟨n, hn⟩ := List.getElem?_of_mem z
  have hl : n < S.length := by rw [← s.len]; exact (List.getElem?_eq_some_iff.mp hn).1
  obtain ⟨vs, hv, _⟩ := s.at_ n a _ hn (List.getElem?_eq_getElem hl)
  rcases h with h | ⟨o, h⟩ <;> rw [hv] at h <;> cases h
mutual
theorem rep_plain {m0 : List Addr} (s : StOk K mg H mu S) : ∀ {v : V} {d : D}, plain d = true → Rep K mg H m0 v d → Rep K mg H mu v d
  | _, _, _, .non => .non
  | _, _, _, .bl b => .bl b
  | _, _, _, .int i => .int i
  | _, _, _, .str i => .str i
  | _, _, h, .tup hq r => .tup (hq.elim (fun z => .inl ⟨z.1, no_tup s z.1⟩) .inr) (reps_plain s (by simpa [plain] using h) r)
  | _, _, h, .lst .. => by simp [plain] at h
  | _, _, h, .ref .. => by simp [plain] at h
  | _, _, h, .scr .. => by simp [plain] at h
  | _, _, h, .err .. => by simp [plain] at h
  | _, _, h, .rng .. => by simp [plain] at h
  | _, _, h, .cau .. => by simp [plain] at h
theorem reps_plain {m0 : List Addr} (s : StOk K mg H mu S) : ∀ {vs : List V} {ds : List D}, plains ds = true → Reps K mg H m0 vs ds → Reps K mg H mu vs ds
  | _, _, _, .nil => .nil
  | _, _, h, .cons r t => by
    simp only [plains, Bool.and_eq_true] at h
    exact .cons (rep_plain s h.1 r) (reps_plain s h.2 t)
end
theorem ext_all (x : Ext H [] H1 []) : Ext H mu H1 mu := ⟨List.prefix_refl _, fun a o h _ => x.keep a o h List.not_mem_nil, fun _ h n => absurd h n⟩
theorem st_all (s : StOk K mg H mu S) (x : Ext H [] H1 []) : StOk K mg H1 mu S := ⟨s.nd, s.len, fun n a ds h1 h2 => by
  obtain ⟨vs, hv, hr⟩ := s.at_ n a ds h1 h2
  exact ⟨vs, x.keep a _ hv List.not_mem_nil, hr.mono (ext_all x)⟩⟩
theorem st_none : StOk K mg H [] [] := ⟨.nil, rfl, fun n a ds h => by simp at h⟩
theorem fz_all (s : StOk K mg H mu S) {vs : List V} {ds ds' : List D} (r : Reps K mg H mu vs ds) (h : fzs S 0 ds = some ds') : Reps K mg H [] vs ds' :=
  reps_map (List.nil_subset _) (fzg_ok s List.nil_prefix 3) r h
end
def dFnZ (n : Nat) (F : Op) (g : Dens) : Den := fun ρ S => bndl (g ρ S) fun ds S1 => match fzs S1 0 ds with
  | some ds' => if ds.length = n then (match F ds' [] with
    | some (.ok d _) => if plain d then some (.ok d S1) else none
    | some (.exc c ns xs _) => if plains xs then some (.exc c ns xs S1) else none
    | none => none) else none
  | none => none
theorem de_callZ {k : Nat} {f : Addr} {fd : FuncData} {ps : List Str} {F : Op} {x : Str} (G : FnD X.prog X.w X.K X.mg X.base k f fd ps F) (hr : Room k X.A) (tk : L2N.Takes X W) (hm : X.mg x = some (.ref f)) (hk : PySem.W.keepIn X.K (.ref f) = true) (hb : Binds X.K fd ps [])
    (ha : DA X W (e :: es) ga) (hg : Gl X x := by rfl) (hdb : (x == ("__debug__" : Str)) = false := by decide) (he : starEach (e :: es) X.env = (false, eval e X.env) :: starEach es X.env := by rfl) (hpl : (backTo pos (starEach es X.env)).any (·.1) = false := by rfl) :
    DE X W (.Call (.Name x p) (e :: es) [] pos) (dFnZ ps.length F ga) := by
  refine peI (pe_callSD (E := WE W) (dvs := []) G hr hg hm hk hb .nil (fun σ => L2N.passAt tk σ) ha hdb he hpl) fun σ H Q h => ?_
  obtain ⟨mu, S, ρ, res, s, en, hf, q⟩ := h
  refine rds_bndl s en hf q fun ds S1 vs H1 m1 x s1 en1 rp h1 q1 => ?_
  rw [List.append_nil]
  split at h1
  · rename_i ds' hz
    split at h1
    · rename_i hl
      cases e1 : F ds' [] with
      | none => rw [e1] at h1; cases h1
      | some r1 =>
        rw [e1] at h1
        refine ⟨rp.length.trans hl, [], [], ds', r1, st_none, fz_all s1 rp hz, e1, ?_⟩
        cases r1 with
        | ok d S' =>
          simp only at h1
          split at h1
          · rename_i hp
            cases h1
            exact fun v H2 _ x2 s2 r2 => q1 v H2 m1 (ext_all (ext_less x2)) (st_all s1 (ext_less x2)) (rep_plain (st_all s1 (ext_less x2)) hp r2)
          · cases h1
        | exc c ns xs S' =>
          simp only at h1
          split at h1
          · rename_i hp
            cases h1
            intro C dx ws H2 x2 s2 hm2 hd hn hl2 r2
            have s3 := st_all s1 x2
            have nd : dx ∉ m1 := fun z => by
              obtain ⟨n, hn'⟩ := List.getElem?_of_mem z
              have hl3 : n < S1.length := by rw [← s3.len]; exact (List.getElem?_eq_some_iff.mp hn').1
              obtain ⟨us, hv, _⟩ := s3.at_ n dx _ hn' (List.getElem?_eq_getElem hl3)
              rw [hv] at hd
              cases hd
            exact q1 C dx ws H2 m1 (ext_all x2) s3 hm2 hd nd hl2 (reps_plain s3 hp r2)
          · cases h1
    · cases h1
  · cases h1
end
end PD
set_option Elab.async false
set_option linter.all false
set_option maxRecDepth 100000
set_option maxHeartbeats 4000000
namespace PD
open PySem PySem.Spec PyProof.Rows L2
section
variable {X : Cx} {W : WX} {a b c e o i tg iter elt : Expr} {es : List Expr} {fa fb fc : Den} {ga gb : Dens} {pos p p1 p2 : Pos} {st : Stmt} {sts rest : List Stmt} {g h : SDen}
theorem de_notT (ha : DE X W a fa) : DE X W (.UnaryOp .Not a pos) (dNotT fa) := by
  refine peI (pe_notT ha) fun σ H Q h => ?_
  obtain ⟨mu, S, ρ, r, s, en, hf, p⟩ := h
  unfold dNotT dNot dTru at hf
  cases e : fa ρ S with
  | none => rw [e] at hf; cases hf
  | some r1 =>
    rw [e] at hf
    cases r1 with
    | exc c ns xs S1 =>
      cases hf
      exact ⟨mu, S, ρ, _, s, en, e, p⟩
    | ok d S1 =>
      refine ⟨mu, S, ρ, _, s, en, e, fun v H1 m1 x s1 rp => ?_⟩
      cases e2 : truth S1 d with
      | none =>
        simp only [bnd_ok, e2, Option.map_none, bndB, bnd_none] at hf
        cases hf
      | some k =>
        simp only [bnd_ok, e2, Option.map_some, bndB] at hf
        cases hf
        exact ⟨k, rep_truth s1 rp e2, (p.mono x).val s1 (.bl _)⟩

/-! ### a def of the text, with what it does -/
/-- the def named x, at rank k, has the denotation F -/
structure Callee (P : Program) (w : World) (K : PySem.W.Frag) (mg : Str → Option Value) (base : Heap) (k : Nat) (x : Str) (st : Stmt) (ps : List Str) (F : Op) : Prop where
  gl : mg x = some (.ref (He.ga K x))
  ex : ∃ fd, FunD K x x (defArgs st) (defBody st) (defScope st) [] [] (He.ga K x) fd ∧ FnD P w K mg base k (He.ga K x) fd ps F
/-- the same in an except suite -/
structure CalleeH (P : Program) (w : World) (K : PySem.W.Frag) (mg : Str → Option Value) (base : Heap) (k : Nat) (x : Str) (st : Stmt) (ps : List Str) (F : Op) : Prop where
  gl : mg x = some (.ref (He.ga K x))
  ex : ∃ fd, FunD K x x (defArgs st) (defBody st) (defScope st) [] [] (He.ga K x) fd ∧ FnDH P w K mg base k (He.ga K x) fd ps F
/-- what is written binds the parameters, one by one -/
def BindsAll (x : Str) (st : Stmt) (ps : List Str) : Prop := ∀ (kV doc pm : Value) (an : Option Addr) (cdv ct : Value) (us : List Value), us.length = ps.length → bindArgs (PySem.W.fnOf x x (defArgs st) (defBody st) (defScope st) .none kV doc pm an cdv ct) ⟨us, []⟩ = pure (ps.zip us)
def BindsKw (x : Str) (st : Stmt) (ps ks : List Str) (ix : List Nat) : Prop := ∀ (kV doc pm : Value) (an : Option Addr) (cdv ct : Value) (ws : List Value), ws.length = ks.length → bindArgs (PySem.W.fnOf x x (defArgs st) (defBody st) (defScope st) .none kV doc pm an cdv ct) ⟨[], ks.zip ws⟩ = pure (ps.zip (permL ix ws))
theorem kwB_of {K : PySem.W.Frag} {x : Str} {st : Stmt} {f : Addr} {fd : FuncData} {ps ks : List Str} {ix : List Nat} (F : FunD K x x (defArgs st) (defBody st) (defScope st) [] [] f fd) (h : BindsKw x st ps ks ix) : KwB K fd ps ks ix := by
  obtain ⟨oc, od, dV, kV, doc, pm, an, cdv, ct, osl, rfl, lk, hcd, hD, hK⟩ := F.ex
  rcases hD with ⟨_, rfl⟩ | ⟨e, _⟩
  · exact ⟨fun s ws X hl => .of_eq (h kV doc pm an cdv ct ws hl)⟩
  · exact absurd rfl e
theorem de_callC {k j : Nat} {ps : List Str} {F : Op} {x : Str} {st : Stmt} (G : Callee X.prog X.w X.K X.mg X.base k x st ps F) (hb : BindsAll x st ps) (hr : Room j X.A) (hk : k ≤ j) (tk : L2N.Takes X W)
    (ha : DA X W (e :: es) ga) (hg : Gl X x := by rfl) (hdb : (x == ("__debug__" : Str)) = false := by decide) (he : starEach (e :: es) X.env = (false, eval e X.env) :: starEach es X.env := by rfl) (hpl : (backTo pos (starEach es X.env)).any (·.1) = false := by rfl) :
    DE X W (.Call (.Name x p) (e :: es) [] pos) (dFn ps.length F ga) := by
  obtain ⟨fd, FD, G2⟩ := G.ex
  exact de_call G2 (hr.mono hk) tk G.gl FD.kp (FD.bindsN hb) ha hg hdb he hpl
theorem de_callZC {k j : Nat} {ps : List Str} {F : Op} {x : Str} {st : Stmt} (G : Callee X.prog X.w X.K X.mg X.base k x st ps F) (hb : BindsAll x st ps) (hr : Room j X.A) (hk : k ≤ j) (tk : L2N.Takes X W)
    (ha : DA X W (e :: es) ga) (hg : Gl X x := by rfl) (hdb : (x == ("__debug__" : Str)) = false := by decide) (he : starEach (e :: es) X.env = (false, eval e X.env) :: starEach es X.env := by rfl) (hpl : (backTo pos (starEach es X.env)).any (·.1) = false := by rfl) :
    DE X W (.Call (.Name x p) (e :: es) [] pos) (dFnZ ps.length F ga) := by
  obtain ⟨fd, FD, G2⟩ := G.ex
  exact de_callZ G2 (hr.mono hk) tk G.gl FD.kp (FD.bindsN hb) ha hg hdb he hpl
theorem de_callHC {k j : Nat} {ps : List Str} {F : Op} {x : Str} {st : Stmt} (G : CalleeH X.prog X.w X.K X.mg X.base k x st ps F) (hb : BindsAll x st ps) (hr : L2H.RoomH j X.A) (hk : k ≤ j) (hc : L2H.HotC X) (tk : L2N.Takes X W)
    (ha : DA X W (e :: es) ga) (hg : Gl X x := by rfl) (hdb : (x == ("__debug__" : Str)) = false := by decide) (he : starEach (e :: es) X.env = (false, eval e X.env) :: starEach es X.env := by rfl) (hpl : (backTo pos (starEach es X.env)).any (·.1) = false := by rfl) :
    DE X W (.Call (.Name x p) (e :: es) [] pos) (dFn ps.length F ga) := by
  obtain ⟨fd, FD, G2⟩ := G.ex
  exact de_callH G2 (hr.mono hk) hc tk G.gl FD.kp (FD.bindsN hb) ha hg hdb he hpl
theorem de_callKC {k j : Nat} {ps ks : List Str} {F : Op} {x : Str} {st : Stmt} {kws : List Keyword} (ix : List Nat) (G : Callee X.prog X.w X.K X.mg X.base k x st ps F) (hb : BindsKw x st ps ks ix) (hr : Room j X.A) (hk : k ≤ j) (tk : L2N.Takes X W)
    (ha : DK X W kws ga) (hg : Gl X x := by rfl) (hall : (backToKw pos (keywordEach kws X.env)).all (·.1.isSome) = true := by rfl) (hks : (backToKw pos (keywordEach kws X.env)).filterMap (·.1) = ks := by rfl)
    (hdb : (x == ("__debug__" : Str)) = false := by decide) (hpl : ((backTo pos (starEach [] X.env)).any (·.1) || (backToKw pos (keywordEach kws X.env)).any (·.1.isNone)) = false := by rfl) :
    DE X W (.Call (.Name x p) [] kws pos) (dFnK ps.length ks.length ix F ga) := by
  obtain ⟨fd, FD, G2⟩ := G.ex
  exact de_callK ix G2 (hr.mono hk) tk G.gl FD.kp (kwB_of FD hb) ha hg hall hks hdb hpl
end
end PD
set_option Elab.async false
set_option linter.all false
set_option maxRecDepth 100000
set_option maxHeartbeats 4000000
namespace PD
open PySem PySem.Spec PyProof.Rows L2
/-- the own error class named c -/
structure OwnErr (K : PySem.W.Frag) (mg : Str → Option Value) (c : Str) : Prop where
  gl : mg c = some (.ref (He.ga K c))
  ox : OexC K (He.ga K c)
  is_ : ErrIs K (He.ga K c)
  ini : PySem.W.findIn K (.ref (He.ga K c)) "__init__" = some (some (.ref (He.ma K (He.ga K c) "__init__")))
  tyi : PySem.W.typeIn K (.ref (He.ma K (He.ga K c) "__init__")) = some (.type "function")
section
variable {K : PySem.W.Frag} {mg : Str → Option Value} {c f : Str} {cv : Value} {b : Bool}
theorem OwnErr.at_ (x : OwnErr K mg c) {C : Addr} (h : mg c = some (.ref C)) : C = He.ga K c := by
  have e := h.symm.trans x.gl
  injection e with e
  injection e
theorem errAt (x : OwnErr K mg c) (h : PySem.W.findIn K (.ref (He.ga K c)) f = some none) : ErrAt K mg c f := ⟨fun C hC => by
  rw [x.at_ hC]
  exact ⟨x.is_.xf, h⟩⟩
theorem isTab1 (x : OwnErr K mg c) (h : PySem.W.kitOne K (.ref (He.ga K c)) cv = some b) : IsTab K mg cv [(c, b)] := fun c' b' hl C hC => by
  rw [List.lookup_cons] at hl
  split at hl
  · rename_i e
    have e' : c' = c := eq_of_beq e
    cases hl
    subst e'
    rw [x.at_ hC]
    exact ⟨x.is_, h⟩
  · cases hl
theorem exTab1 (x : OwnErr K mg c) (h : PySem.W.exmOne K (.ref (He.ga K c)) cv = some b) : ExTab K mg cv [(c, b)] := fun c' b' hl C hC => by
  rw [List.lookup_cons] at hl
  split at hl
  · rename_i e
    have e' : c' = c := eq_of_beq e
    cases hl
    subst e'
    rw [x.at_ hC]
    exact h
  · cases hl
theorem tab1 {c' : Str} {b b' : Bool} (h : List.lookup c' [(c, b)] = some b') : c' = c := by
  rw [List.lookup_cons] at h
  split at h
  · rename_i e
    exact eq_of_beq e
  · cases h
end
/-- a comprehension's block, as a Boolean -/
def blkB (N : List Str) (sc scope : Scope) (own : List (Str × Nat)) : Bool := decide (scope.kind = .function) && (scope.names.all (fun y => decide (scope.names.lookup y.1 = some y.2)) && (own.all (fun p => decide (N[p.2]? = some p.1)) &&
  (scope.names.all (fun y => decide (y.2 ≠ .free) || (decide (sc.names.lookup y.1 = some .cell) || decide (sc.names.lookup y.1 = some .free))) && scope.names.all fun y => (decide (y.2 ≠ .local) && decide (y.2 ≠ .cell)) || (decide (y.1 ∈ own.map (·.1)) || decide (y.1 ∉ N)))))
theorem blkB_ok {N : List Str} {sc scope : Scope} {own : List (Str × Nat)} (h : blkB N sc scope own = true) : BlkOk N sc scope own := by
  unfold blkB at h
  simp only [Bool.and_eq_true, List.all_eq_true, decide_eq_true_eq, Bool.or_eq_true] at h
  obtain ⟨h1, h2, h3, h4, h5⟩ := h
  refine ⟨h1, h2, h3, fun y hy e => ?_, fun y hy e => ?_⟩
  · rcases h4 y hy with z | z
    · exact absurd e z
    · exact z
  · rcases h5 y hy with z | z
    · rcases e with e | e
      · exact absurd e z.1
      · exact absurd e z.2
    · exact z
theorem roomH_units {k : Nat} {A : Around} (r : L2H.RoomH k A) : A.units + 64 < cLine := by have := r.un; omega
theorem roomH_suite {k : Nat} {A : Around} {v : Option Value} (r : Room k A) : L2H.RoomH k (A.mark v) := ⟨r.dp, r.un⟩
/-- an own __init__ of two fields -/
def InitC2 (P : Program) (w : World) (K : PySem.W.Frag) (mg : Str → Option Value) (base : Heap) (f : Addr) (ps : List Str) (f1 f2 : Str) : Prop := ∃ fd, FnOk P w K mg base (L2N.CX P w) 1 f fd ps (spInit2 K f1 f2) ∧ L2.Binds K fd ps []
def InitC1 (P : Program) (w : World) (K : PySem.W.Frag) (mg : Str → Option Value) (base : Heap) (f : Addr) (ps : List Str) (f1 : Str) : Prop := ∃ fd, FnOk P w K mg base (L2N.CX P w) 1 f fd ps (spInit1 K f1) ∧ L2.Binds K fd ps []
section
variable {X : Cx} {W : WX} {e b : Expr} {ga : Dens} {pos p p1 : Pos}
theorem raise2C {c f1 f2 : Str} {j : Nat} {ps : List Str} (x : OwnErr X.K X.mg c) (n1 : PySem.W.findIn X.K (.ref (He.ga X.K c)) f1 = some none) (n2 : PySem.W.findIn X.K (.ref (He.ga X.K c)) f2 = some none)
    (i : InitC2 X.prog X.w X.K X.mg X.base (He.ma X.K (He.ga X.K c) "__init__") ps f1 f2) (hr : Room j X.A) (hj : 2 ≤ j) (hc : X.calm = true) (tk : L2N.Takes X W) (ha : DA X W [e, b] ga) (hg : Gl X c := by rfl) (hdb : (c == ("__debug__" : Str)) = false := by decide)
    (he : starEach [e, b] X.env = (false, eval e X.env) :: starEach [b] X.env := by rfl) (hpl : (backTo p1 (starEach [b] X.env)).any (·.1) = false := by rfl) : DS X W (.Raise (some (.Call (.Name c p) [e, b] [] p1)) none pos) (sRaise c [f2, f1] [1, 0] ga) := by
  obtain ⟨fd, F, hb⟩ := i
  exact ds_raise2 x.ox x.ini x.tyi n1 n2 F (hr.mono hj) hb hc tk x.gl ha hg hdb he hpl
theorem raise1C {c f1 : Str} {j : Nat} {ps : List Str} (x : OwnErr X.K X.mg c) (n1 : PySem.W.findIn X.K (.ref (He.ga X.K c)) f1 = some none)
    (i : InitC1 X.prog X.w X.K X.mg X.base (He.ma X.K (He.ga X.K c) "__init__") ps f1) (hr : Room j X.A) (hj : 2 ≤ j) (hc : X.calm = true) (tk : L2N.Takes X W) (ha : DA X W [e] ga) (hg : Gl X c := by rfl) (hdb : (c == ("__debug__" : Str)) = false := by decide)
    (he : starEach [e] X.env = (false, eval e X.env) :: starEach [] X.env := by rfl) : DS X W (.Raise (some (.Call (.Name c p) [e] [] p1)) none pos) (sRaise c [f1] [0] ga) := by
  obtain ⟨fd, F, hb⟩ := i
  exact ds_raise1 x.ox x.ini x.tyi n1 F (hr.mono hj) hb hc tk x.gl ha hg hdb he
end
theorem SaysE.err_at {fa : List He.Fa} {fn : List He.DefD} {fe : List Fe} {K : PySem.W.Frag} (c : SaysE fa fn fe K) (i : Nat) {f : Fe} (h : fe[i]? = some f := by rfl) : f.ok K = true := c.err (List.mem_of_getElem? h)
theorem ownErr_ok {K : PySem.W.Frag} {mg : Str → Option Value} {c : Str} (g : mg c = some (.ref (He.ga K c))) (h : (Fe.oex c).ok K = true) : OwnErr K mg c := by
  obtain ⟨h1, h⟩ := and2 (show (oexB K (He.ga K c) && (erisB K (He.ga K c) && (He.eqO (PySem.W.findIn K (.ref (He.ga K c)) "__init__") (some (some (.ref (He.ma K (He.ga K c) "__init__")))) && decide (PySem.W.typeIn K (.ref (He.ma K (He.ga K c) "__init__")) = some (.type "function"))))) = true from h)
  obtain ⟨h2, h⟩ := and2 h
  obtain ⟨h3, h4⟩ := and2 h
  exact ⟨g, oexB_ok h1, erisB_ok h2, He.eqO_ok h3, of_decide_eq_true h4⟩
theorem funD_fd {K : PySem.W.Frag} {x q x' q' : Str} {pa pa' : Arguments} {b b' : List Stmt} {sc sc' : Scope} {d d' : List V} {k k' : List (Str × V)} {f : Addr} {fd fd' : FuncData} (a : FunD K x q pa b sc d k f fd) (c : FunD K x' q' pa' b' sc' d' k' f fd') : fd = fd' := by
  obtain ⟨_, _, _, _, _, _, _, _, _, _, _, l1, _⟩ := a.ex
  obtain ⟨_, _, _, _, _, _, _, _, _, _, _, l2, _⟩ := c.ex
  rw [l1] at l2
  injection l2 with e
  injection e with _ _ e
  injection e
end PD
set_option Elab.async false
set_option linter.all false
set_option maxRecDepth 100000
set_option maxHeartbeats 4000000
namespace PD
open PySem PySem.Spec PyProof.Rows L2
/-! ### denotations, evaluated -/
mutual
/-- no list in it may change -/
def closed : D → Bool
  | .tup xs => closeds xs
  | .lst xs => closeds xs
  | .err _ _ xs => closeds xs
  | .non => true
  | .bl _ => true
  | .int _ => true
  | .str _ => true
  | .scr _ => true
  | .rng _ _ => true
  | .ref _ => false
  | .cau .. => false
  | .fn _ => true
def closeds : List D → Bool
  | [] => true
  | x :: xs => closed x && closeds xs
end
mutual
theorem map_closed {g : Nat → Option D} : ∀ {d : D}, closed d = true → mapRef g d = some d
  | .tup xs, h => by simp only [closed] at h; simp [mapRef, maps_closed h]
  | .lst xs, h => by simp only [closed] at h; simp [mapRef, maps_closed h]
  | .err c ns xs, h => by simp only [closed] at h; simp [mapRef, maps_closed h]
  | .non, h => by simp [mapRef]
  | .bl _, h => by simp [mapRef]
  | .int _, h => by simp [mapRef]
  | .str _, h => by simp [mapRef]
  | .scr _, h => by simp [mapRef]
  | .rng _ _, h => by simp [mapRef]
  | .fn _, h => by simp [mapRef]
  | .ref _, h => by simp [closed] at h
  | .cau .., h => by simp [closed] at h
theorem maps_closed {g : Nat → Option D} : ∀ {ds : List D}, closeds ds = true → mapRefs g ds = some ds
  | [], _ => by simp [mapRefs]
  | x :: xs, h => by
    simp only [closeds, Bool.and_eq_true] at h
    simp [mapRefs, map_closed h.1, maps_closed h.2]
end
theorem closeds_all {xs : List D} : closeds xs = xs.all closed := by
  induction xs with
  | nil => simp [closeds]
  | cons x xs ih => simp [closeds, ih]
@[simp] theorem closeds_map_int (ns : List Int) : closeds (ns.map D.int) = true := by simp [closeds_all, closed]
theorem fz_closed {S : Store} {n : Nat} {d : D} (h : closed d = true) : fz S n d = some d := map_closed h
theorem fzs_closed {S : Store} {n : Nat} {d : List D} (h : closeds d = true) : fzs S n d = some d := maps_closed h
/-- O is what the def with these names and this body does; the kernel can't unfold O -/
class Is (O : Op) (N : outParam (List Str)) (g : outParam SDen) : Prop where
  eq : O = fnOf N g
/-- a def that returns a closed value -/
theorem fn_rt {O : Op} {N : List Str} {g : SDen} [i : Is O N g] {ds : List D} {S S1 : Store} {d : D} (h : g (startD N ds) S = some (.rt d S1)) (hs : S1.take S.length = S) (hc : closed d = true) : O ds S = some (.ok d S) := by
  rw [i.eq]
  unfold fnOf
  rw [h]
  simp [fin, hs, fz_closed hc]
theorem fn_rtS {O : Op} {N : List Str} {g : SDen} [i : Is O N g] {ds : List D} {S : Store} {d : D} (h : g (startD N ds) S = some (.rt d S)) (hc : closed d = true) : O ds S = some (.ok d S) := fn_rt h (by simp) hc
theorem fn_nx {O : Op} {N : List Str} {g : SDen} [i : Is O N g] {ds : List D} {S : Store} {ρ : EnvD} (h : g (startD N ds) S = some (.nx ρ S)) : O ds S = some (.ok .non S) := by
  rw [i.eq]
  unfold fnOf
  rw [h]
  simp [fin]
theorem fn_exc {O : Op} {N : List Str} {g : SDen} [i : Is O N g] {ds : List D} {S : Store} {ρ : EnvD} {c : Str} {ns : List Str} {xs : List D} (h : g (startD N ds) S = some (.exc c ns xs ρ S)) (hc : closeds xs = true) : O ds S = some (.exc c ns xs S) := by
  rw [i.eq]
  unfold fnOf
  rw [h]
  simp [fin, fzs_closed hc]
section
variable {ρ : EnvD} {S : Store}
@[simp] theorem e_seq (g h : SDen) : sSeq g h ρ S = match g ρ S with
    | some (.nx ρ1 S1) => h ρ1 S1
    | r => r := rfl
@[simp] theorem e_nil : sNil ρ S = some (.nx ρ S) := rfl
@[simp] theorem e_ret (f : Den) : sRet f ρ S = bndS (f ρ S) ρ fun d S1 => some (.rt d S1) := rfl
@[simp] theorem e_expr (f : Den) : sExpr f ρ S = bndS (f ρ S) ρ fun _ S1 => some (.nx ρ S1) := rfl
@[simp] theorem e_set (k : Nat) (f : Den) : sSet k f ρ S = bndS (f ρ S) ρ fun d S1 => some (.nx (ρ.set k (some d)) S1) := rfl
@[simp] theorem e_break : sBreak ρ S = some (.bk ρ S) := rfl
@[simp] theorem e_cont : sCont ρ S = some (.ct ρ S) := rfl
@[simp] theorem e_C (d : D) : dC d ρ S = some (.ok d S) := rfl
@[simp] theorem e_nilA : dNil ρ S = some (.ok [] S) := rfl
@[simp] theorem e_consA (f : Den) (g : Dens) : dCons f g ρ S = bnds (f ρ S) fun d S1 => bndls (g ρ S1) fun ds S2 => some (.ok (d :: ds) S2) := rfl
@[simp] theorem e_fn (n : Nat) (F : Op) (g : Dens) : dFn n F g ρ S = bndl (g ρ S) fun ds S1 => if ds.length = n then F ds S1 else none := rfl
@[simp] theorem e_call (F : Op) (g : Dens) : dCall F g ρ S = bndl (g ρ S) F := rfl
@[simp] theorem e_bin (o : Op2) (f g : Den) : dBin o f g ρ S = bnd (f ρ S) fun x S1 => bnd (g ρ S1) fun y S2 => o x y S2 := rfl
@[simp] theorem e_tup (g : Dens) : dTup g ρ S = bndl (g ρ S) fun ds S1 => if fits ds.length then some (.ok (.tup ds) S1) else none := rfl
@[simp] theorem e_lst (g : Dens) : dLst g ρ S = bndl (g ρ S) fun ds S1 => if fits ds.length then some (.ok (.lst ds) S1) else none := rfl
@[simp] theorem e_lstM (g : Dens) : dLstM g ρ S = bndl (g ρ S) fun ds S1 => if fits ds.length then some (.ok (.ref S1.length) (S1 ++ [ds])) else none := rfl
@[simp] theorem e_and (f g : Den) : dAnd f g ρ S = bndB (f ρ S) fun b S1 => if b then g ρ S1 else some (.ok (.bl false) S1) := rfl
@[simp] theorem e_or (f g : Den) : dOr f g ρ S = bndB (f ρ S) fun b S1 => if b then some (.ok (.bl true) S1) else g ρ S1 := rfl
@[simp] theorem e_not (f : Den) : dNot f ρ S = bndB (f ρ S) fun b S1 => some (.ok (.bl (!b)) S1) := rfl
@[simp] theorem e_tru (f : Den) : dTru f ρ S = bnd (f ρ S) fun d S1 => (truth S1 d).map fun k => .ok (.bl k) S1 := rfl
@[simp] theorem e_isi (T : String) (f : Den) : dIsi T f ρ S = bnd (f ρ S) fun d S1 => (tyName d).map fun t => .ok (.bl (isTy t T)) S1 := rfl
@[simp] theorem e_ifx (t f g : Den) : dIf t f g ρ S = bndB (t ρ S) fun b S1 => if b then f ρ S1 else g ρ S1 := rfl
@[simp] theorem bndB_ok (b : Bool) (S1 : Store) (k : Bool → Store → Option Res) : bndB (some (.ok (.bl b) S1)) k = k b S1 := rfl
@[simp] theorem e_var (i : Nat) : dVar i ρ S = match ρ[i]? with
    | some (some d) => some (.ok d S)
    | _ => none := rfl
@[simp] theorem e_if (t : Den) (g h : SDen) : sIf t g h ρ S = match t ρ S with
    | some (.ok (.bl b) S1) => if b then g ρ S1 else h ρ S1
    | some (.exc c ns xs S1) => some (.exc c ns xs ρ S1)
    | _ => none := rfl
@[simp] theorem e_sub (f g : Int → Int → Option D) (i j : Int) : oInt2 g (.int i) (.int j) S = (g i j).map fun d => .ok d S := rfl
@[simp] theorem eqD_int (i j : Int) : eqD S (.int i) (.int j) = some (i == j) := by simp [eqD, toPy, pyr, SeqAt.shaped, PyData.eqv, PyData.canLay0, PyData.depth]
@[simp] theorem eqD_bl (i j : Bool) : eqD S (.bl i) (.bl j) = some (i == j) := by simp [eqD, toPy, pyr, SeqAt.shaped, PyData.eqv, PyData.canLay0, PyData.depth]
theorem eqD_str {i j : Str} (hi : PyData.strOk i = true) (hj : PyData.strOk j = true) : eqD S (.str i) (.str j) = some (i == j) := by simp [eqD, toPy, pyr, SeqAt.shaped, PyData.eqv, PyData.canLay0, PyData.depth, hi, hj]
@[simp] theorem oEq_of {a b : D} {k : Bool} (h : eqD S a b = some k) : oEq a b S = some (.ok (.bl k) S) := by simp [oEq, h]
@[simp] theorem oNe_of {a b : D} {k : Bool} (h : eqD S a b = some k) : oNe a b S = some (.ok (.bl (!k)) S) := by simp [oNe, h]
end
/-- a plain whole number -/
def whole : D → Bool
  | .int _ => true
  | _ => false
/-- of a kind that isinstance tells -/
def told (d : D) : Bool := (tyName d).isSome
end PD
set_option Elab.async false
set_option linter.all false
set_option maxRecDepth 100000
set_option maxHeartbeats 4000000
namespace PD
open PySem PySem.Spec PyProof.Rows L2
/-! ### loops -/
section
variable {ρ : EnvD} {S : Store} {t : TDen} {g : SDen} {all : List D}
@[simp] theorem loop_nil (w : Option Nat) : forLoop w all t g [] ρ S = some (.nx ρ S) := rfl
theorem loop_cons (x : D) (xs : List D) : forLoop none all t g (x :: xs) ρ S = match t x ρ S with
    | none => none
    | some ρ1 => match g ρ1 S with
      | some (.nx ρ2 S2) => forLoop none all t g xs ρ2 S2
      | some (.ct ρ2 S2) => forLoop none all t g xs ρ2 S2
      | some (.bk ρ2 S2) => some (.nx ρ2 S2)
      | r => r := by
  simp only [forLoop, ckOf_none]
  cases t x ρ S with
  | none => rfl
  | some ρ1 =>
    simp only
    cases g ρ1 S with
    | none => rfl
    | some r => cases r <;> simp
theorem for_of {f : Iens} {items : List D} {w : Option Nat} {S1 : Store} (h : f ρ S = some (.ok items w S1)) : sFor f t g ρ S = forLoop w items t g items ρ S1 := by
  unfold sFor
  rw [h]
@[simp] theorem e_tName (k : Nat) (d : D) : tName k d ρ S = some (ρ.set k (some d)) := rfl
@[simp] theorem e_range1 (f : Den) : dRange1 f ρ S = bndi (f ρ S) fun d S1 => match d with
  | .int j => if -(2 ^ 62) ≤ j ∧ j < 2 ^ 62 then some (.ok (rgD 0 j.toNat) none S1) else none
  | _ => none := rfl
@[simp] theorem e_items (f : Den) : dItems f ρ S = bndi (f ρ S) fun d S1 => (asWalk S1 d).map fun q => .ok q.1 q.2 S1 := rfl
@[simp] theorem e_par (k l : Nat) (g : Dens) : sPar k l g ρ S = match g ρ S with
  | some (.ok [d, d2] S1) => some (.nx ((ρ.set k (some d)).set l (some d2)) S1)
  | some (.ok _ _) => none
  | some (.exc c ns xs S1) => some (.exc c ns xs ρ S1)
  | none => none := rfl
end
@[simp] theorem e_int1 (i : Int) (S : Store) : oInt1 [.int i] S = some (.ok (.int i) S) := rfl
@[simp] theorem e_gcd (i j : Int) (S : Store) : oGcd [.int i, .int j] S = some (.ok (.int ((Nat.gcd i.natAbs j.natAbs : Nat) : Int)) S) := rfl
/-! ### Euclid -/
def euc : Nat → Int → Int → Int
  | 0, a, _ => a
  | n + 1, a, b => if b = 0 then a else euc n b (a % b)
theorem euc_zero : ∀ (n : Nat) (a : Int), euc n a 0 = a
  | 0, _ => rfl
  | _ + 1, _ => by simp [euc]
theorem half {a b : Int} (ha : 0 < a) (hb : 0 < b) (h : b < a) : 2 * (a % b) < a := by
  have h1 := Int.emod_add_mul_ediv a b
  have h2 := Int.emod_lt_of_pos a hb
  have h3 := Int.emod_nonneg a (by omega : b ≠ 0)
  have h4 : 1 ≤ a / b := Int.le_ediv_of_mul_le hb (by omega)
  have h5 : b * 1 ≤ b * (a / b) := Int.mul_le_mul_of_nonneg_left h4 (by omega)
  omega
theorem gcd_step (a b : Int) : Int.gcd b (a % b) = Int.gcd a b := by
  rw [Int.emod_def, Int.gcd_sub_mul_left_right, Int.gcd_comm]
theorem euc_gcd : ∀ (k n : Nat) (a b : Int), 0 ≤ b → b < 2 ^ k → 2 * k ≤ n → euc n a b = if b = 0 then a else (Int.gcd a b : Int)
  | 0, n, a, b, h0, h1, _ => by
    have : b = 0 := by have : (2 : Int) ^ 0 = 1 := rfl; omega
    subst this
    simp [euc_zero]
  | k + 1, n, a, b, h0, h1, hn => by
    by_cases hb : b = 0
    · subst hb; simp [euc_zero]
    · match n, hn with
      | n + 2, hn =>
        have hp : 0 < b := by omega
        simp only [euc, hb, if_false]
        by_cases hc : a % b = 0
        · simp only [hc, if_true]
          have : b ∣ a := Int.dvd_of_emod_eq_zero hc
          rw [Int.gcd_eq_right_iff_dvd (by omega) |>.mpr this]
        · simp only [hc, if_false]
          have h3 := Int.emod_nonneg a hb
          have h4 := Int.emod_lt_of_pos a hp
          have h5 : 0 < a % b := by omega
          have h6 := half hp h5 h4
          have h7 : (2 : Int) ^ (k + 1) = 2 * 2 ^ k := by rw [Int.pow_succ]; omega
          have h8 := Int.emod_nonneg b hc
          rw [euc_gcd k n (a % b) (b % (a % b)) h8 (by omega) (by omega)]
          have e1 := gcd_step a b
          have e2 := gcd_step b (a % b)
          split
          · rename_i hz
            have : a % b ∣ b := Int.dvd_of_emod_eq_zero hz
            rw [← e1, Int.gcd_eq_right_iff_dvd (by omega) |>.mpr this]
          · rw [e2, e1]
end PD
set_option Elab.async false
set_option linter.all false
set_option maxRecDepth 100000
set_option maxHeartbeats 4000000
namespace PD
open PySem PySem.Spec PyProof.Rows L2
/-! ### comprehensions -/
section
variable {ρ : EnvD} {S : Store} {own : List Nat} {t : Tg} {cnd elt : Den} {f : Iens} {items : List D}
theorem set_last (S : Store) (a b : List D) : (S ++ [a]).set S.length b = S ++ [b] := by simp
theorem get_last (S : Store) (a : List D) : (S ++ [a])[S.length]? = some a := by simp
theorem lc_loop (all : List D) (h : D → D) (p : D → Bool) (ρ' : D → EnvD) : ∀ (xs : List D) (acc : List D), (∀ x ∈ xs, t.go x (wipeD ρ own) = some (ρ' x)) → (∀ x ∈ xs, ∀ T, cnd (ρ' x) T = some (.ok (.bl (p x)) T)) → (∀ x ∈ xs, p x = true → ∀ T, elt (ρ' x) T = some (.ok (h x) T)) →
    acc.length + xs.length ≤ 16777216 → lcLoop own t cnd elt ρ S.length none all xs (S ++ [acc]) = some (S ++ [acc ++ (xs.filter p).map h])
  | [], acc, _, _, _, _ => by simp [lcLoop]
  | x :: xs, acc, ht, hc, he, hl => by
    have ih := fun a => lc_loop all h p ρ' xs a (fun y hy => ht y (List.mem_cons_of_mem _ hy)) (fun y hy => hc y (List.mem_cons_of_mem _ hy)) (fun y hy => he y (List.mem_cons_of_mem _ hy))
    simp only [List.length_cons] at hl
    simp only [lcLoop, ht x List.mem_cons_self, hc x List.mem_cons_self]
    cases hp : p x with
    | false =>
      simp only [Bool.false_eq_true, if_false, ckOf_none, if_true]
      rw [ih acc (by omega)]
      simp [hp]
    | true =>
      simp only [if_true, he x List.mem_cons_self hp, get_last, ckOf_none, set_last, and_true]
      rw [if_pos (by omega), ih (acc ++ [h x]) (by simp; omega)]
      simp [hp]
theorem lc_filter (h : D → D) (p : D → Bool) (ρ' : D → EnvD) (hf : f ρ S = some (.ok items none S)) (ht : ∀ x ∈ items, t.go x (wipeD ρ own) = some (ρ' x)) (hc : ∀ x ∈ items, ∀ T, cnd (ρ' x) T = some (.ok (.bl (p x)) T)) (he : ∀ x ∈ items, p x = true → ∀ T, elt (ρ' x) T = some (.ok (h x) T))
    (hl : items.length ≤ 16777216) (cl : closeds ((items.filter p).map h) = true) : dLc own f t cnd elt ρ S = some (.ok (.lst ((items.filter p).map h)) S) := by
  have e := lc_loop (S := S) items h p ρ' items [] ht hc he (by simpa using hl)
  unfold dLc
  rw [hf]
  simp only [e, List.nil_append, get_last, List.take_left', fzs_closed cl]
  simp
theorem lc_map (h : D → D) (ρ' : D → EnvD) (hf : f ρ S = some (.ok items none S)) (ht : ∀ x ∈ items, t.go x (wipeD ρ own) = some (ρ' x)) (he : ∀ x ∈ items, ∀ T, elt (ρ' x) T = some (.ok (h x) T))
    (hl : items.length ≤ 16777216) (cl : closeds (items.map h) = true) : dLc own f t dYes elt ρ S = some (.ok (.lst (items.map h)) S) := by
  have k : items.filter (fun _ => true) = items := List.filter_eq_self.mpr fun _ _ => rfl
  have e := lc_filter (cnd := dYes) h (fun _ => true) ρ' hf ht (fun x hx T => rfl) (fun x hx _ => he x hx) hl (by rw [k]; exact cl)
  rwa [k] at e
end
theorem bools_map {α : Type} (p : α → Bool) : ∀ xs : List α, bools (xs.map fun x => D.bl (p x)) = some (xs.map p)
  | [] => rfl
  | x :: xs => by simp [bools, bools_map p xs]
@[simp] theorem e_all {α : Type} (p : α → Bool) (xs : List α) (S : Store) : oAll [.lst (xs.map fun x => D.bl (p x))] S = some (.ok (.bl (xs.all p)) S) := by
  simp [oAll, asList, bools_map, List.all_map]
theorem ints_mapA {α : Type} (p : α → Int) : ∀ xs : List α, intsD (xs.map fun x => D.int (p x)) = some (xs.map p)
  | [] => rfl
  | x :: xs => by simp [intsD, ints_mapA p xs]
end PD
set_option Elab.async false
set_option linter.all false
set_option maxRecDepth 100000
set_option maxHeartbeats 4000000
namespace PD
open PySem PySem.Spec PyProof.Rows L2
section
variable {X : Cx} {W : WX} {a b c e : Expr} {es : List Expr} {fa fb fc : Den} {ga gb : Dens} {pos p p1 p2 : Pos} {tg iter : Expr}
/-! ### range(n) as a value -/
theorem cr_range1 : CallR X (.type "range") (fun vs H Q => ∃ j, vs = [V.int j] ∧ ∀ p, H p = none → Q (.ref p) (upd H p (.rng 0 j))) := by
  intro pins s σ H vs us Q I r h
  obtain ⟨j, rfl, q⟩ := h
  cases r with
  | cons ri rr =>
    cases rr
    obtain ⟨t, rfl⟩ := ri
    refine call_range_1 ⟨.ref s.heap.objs.size, upd H s.heap.objs.size (.rng 0 j), I.laid (t' := _) (fun b o e => Heap.get?_push_of_some _ e) (Nat.le_refl _) ?_, rfl, q _ (I.hok.fresh (Nat.le_refl _))⟩
    exact ⟨_, _, _, Heap.get?_push_size _ rfl⟩
def oRange1 : Op := fun ds S => match ds with
  | [.int j] => some (.ok (.rng 0 j) S)
  | _ => none
theorem callD_range1 : CallD X (fun vs H Q => ∃ j, vs = [V.int j] ∧ ∀ p, H p = none → Q (.ref p) (upd H p (.rng 0 j))) oRange1 := by
  intro H mu S vs ds res W σ Q s r ho q
  unfold oRange1 at ho
  split at ho
  · cases ho
    obtain ⟨v, rfl, r1⟩ := reps1 r
    cases r1
    refine ⟨_, rfl, fun p hp => ?_⟩
    exact q (.ref p) _ mu (Ext.fresh hp (s.free hp)) (s.fresh hp) (.rng upd_same (s.free hp))
  · cases ho
end
/-! ### zip of two tuples, of two lists that stand -/
def zipD : List D → List D → List D
  | x :: xs, y :: ys => .tup [x, y] :: zipD xs ys
  | _, _ => []
theorem zipD_length : ∀ xs ys : List D, (zipD xs ys).length = min xs.length ys.length
  | [], _ => by simp [zipD]
  | _ :: _, [] => by simp [zipD]
  | x :: xs, y :: ys => by simp [zipD, zipD_length xs ys, Nat.succ_min_succ]
theorem zipD_get : ∀ (k : Nat) (xs ys : List D) (d : D), (zipD xs ys)[k]? = some d → ∃ x y, xs[k]? = some x ∧ ys[k]? = some y ∧ d = .tup [x, y]
  | _, [], _, _, h => by simp [zipD] at h
  | _, _ :: _, [], _, h => by simp [zipD] at h
  | 0, x :: xs, y :: ys, d, h => by
    simp only [zipD, List.getElem?_cons_zero] at h
    cases h
    exact ⟨x, y, rfl, rfl, rfl⟩
  | k + 1, x :: xs, y :: ys, d, h => by
    simp only [zipD, List.getElem?_cons_succ] at h
    obtain ⟨x', y', h1, h2, h3⟩ := zipD_get k xs ys d h
    exact ⟨x', y', by simpa using h1, by simpa using h2, h3⟩
section
variable {X : Cx} {W : WX} {a b e e2 : Expr} {fa fb : Den} {p pos tpos : Pos} {elts : List Expr} {kk : Nat}
theorem walks_zipT {a b : Addr} {vs ws : List V} {xs ys : List D} : Walks X.K X.mg (RZ.ItzT X.K a b) (fun H mu _ => (SqTm X.K H mu a vs ∧ Reps X.K X.mg H mu vs xs) ∧ (SqTm X.K H mu b ws ∧ Reps X.K X.mg H mu ws ys)) (ckOf none (zipD xs ys)) (zipD xs ys) where
  mono := fun H mu S H' mu' S' h x _ => ⟨⟨x.sqT h.1.1, h.1.2.mono x⟩, ⟨x.sqT h.2.1, h.2.2.mono x⟩⟩
  has := fun _ _ _ _ => trivial
  go := fun i H mu S h _ hi => by
    rw [zipD_length] at hi
    exact ⟨vs, ws, vs[i]'(by rw [h.1.2.length]; omega), ws[i]'(by rw [h.2.2.length]; omega), h.1.1.sq, h.2.1.sq, List.getElem?_eq_getElem _, List.getElem?_eq_getElem _⟩
  yld := fun i H mu x H' S d h s y hd => by
    obtain ⟨T, u, v, rfl, hT, rfl, hu, hv⟩ := y
    obtain ⟨xd, yd, h1, h2, rfl⟩ := zipD_get i xs ys d hd
    obtain ⟨u', k1, k2⟩ := h.1.2.get h1
    obtain ⟨v', l1, l2⟩ := h.2.2.get h2
    have e1 := hu vs h.1.1.sq
    rw [k1] at e1
    obtain rfl : u' = u := Option.some.inj e1
    have e2 := hv ws h.2.1.sq
    rw [l1] at e2
    obtain rfl : v' = v := Option.some.inj e2
    have n := s.free hT
    have xx : Ext H mu (upd H T (.tup [u', v'])) mu := Ext.fresh hT n
    exact ⟨xx, s.fresh hT, .tup (.inl ⟨.inl upd_same, n⟩) (.cons (k2.mono xx) (.cons (l2.mono xx) .nil))⟩
  stop := fun H mu S h _ => ⟨vs, ws, h.1.1.sq, h.2.1.sq, by rw [zipD_length, h.1.2.length, h.2.2.length]; omega⟩
def dZip (f g : Den) : Iens := fun ρ S => bndi (f ρ S) fun d S1 => bndi (g ρ S1) fun d2 S2 => match d, d2 with
  | .tup xs, .tup ys => some (.ok (zipD xs ys) none S2)
  | _, _ => none
theorem di_zip (hm : X.mg "zip" = none) (ha : DE X W a fa) (hb : DE X W b fb) (hg : Gl X "zip" := by rfl) (hs : starEach [a, b] X.env = (false, eval a X.env) :: starEach [b] X.env := by rfl) (hs2 : starEach [b] X.env = [(false, eval b X.env)] := by rfl) (hpl : (backTo pos (starEach [b] X.env)).any (·.1) = false := by rfl) :
    DI X W (.Tuple elts kk tpos) (.Call (.Name "zip" p) [a, b] [] pos) (dZip fa fb) := by
  refine piI (RZ.pi_zipA hg hm (pa_cons ha (pa_cons hb pa_nil hs2) hs) hs hpl) fun σ H R h => ?_
  obtain ⟨mu, S, ρ, r, s, en, hf, q⟩ := rdI_of h
  refine rd_bndI s en hf q fun d S1 v H1 m1 x s1 en1 rp h1 q1 => ?_
  refine rd_bndI s1 en1 h1 q1 fun d2 S2 v2 H2 m2 x2 s2 en2 rp2 h2 q2 => ?_
  have rp' := rp.mono x2
  split at h2
  · cases h2
    cases rp' with
    | tup hq rv =>
      cases rp2 with
      | tup hq2 rv2 => exact ⟨_, _, _, _, rfl, .inr ⟨hq.sq, hq2.sq, q2 _ _ H2 m2 walks_zipT ⟨⟨hq, rv⟩, ⟨hq2, rv2⟩⟩ (Ext.refl _ _) s2⟩⟩
  · cases h2
end
end PD
set_option Elab.async false
set_option linter.all false
set_option maxRecDepth 100000
set_option maxHeartbeats 4000000
namespace PD
open PySem PySem.Spec PyProof.Rows L2
/-! ### a def that calls itself: by at most n calls, one in the other -/
section
variable {P : Program} {w : World} {K : PySem.W.Frag} {mg : Str → Option Value} {base : Heap} {x qual : Str} {params : Arguments} {body : List Stmt} {scope : Scope} {f : Addr} {fd : FuncData} {dvs : List V} {kws : List (Str × V)}
theorem fn_none {N ps : List Str} {k : Nat} (F : FunD K x qual params body scope dvs kws f fd) (Sc : FnScope N ps scope) : FnD P w K mg base (k + 1) f fd ps (fun _ _ => none) := by
  exact F.ok (sp := spD K mg ps.length fun _ _ => none) Sc (fun vs H Q E h => h.1) fun cdv A outer s H vs Q E hr h => by
    obtain ⟨_, mu, S, ds, r, _, _, e, _⟩ := h
    cases e
end
/-- each level of such a def -/
theorem rec_ex (g : Op → SDen) (N : List Str) : ∃ F : Nat → Op, F 0 = (fun _ _ => none) ∧ ∀ n, F (n + 1) = fnOf N (g (F n)) := ⟨fun n => Nat.rec (fun _ _ => none) (fun _ f => fnOf N (g f)) n, rfl, fun _ => rfl⟩
theorem sWhileN_mono (t : Den) (g : SDen) : ∀ (m n : Nat) (ρ : EnvD) (S : Store) (r : SRes), m ≤ n → sWhileN t g m ρ S = some r → sWhileN t g n ρ S = some r
  | 0, _, _, _, _, _, h => by cases h
  | m + 1, 0, _, _, _, hl, _ => by omega
  | m + 1, n + 1, ρ, S, r, hl, h => by
    unfold sWhileN at h ⊢
    split at h
    · rename_i b S1 e1
      cases b with
      | false => exact h
      | true =>
        simp only [if_true] at h ⊢
        split at h
        · rename_i ρ2 S2 e2
          exact sWhileN_mono t g m n ρ2 S2 r (by omega) h
        · rename_i ρ2 S2 e2
          exact sWhileN_mono t g m n ρ2 S2 r (by omega) h
        · exact h
        · exact h
    · exact h
    · cases h
end PD
set_option Elab.async false
set_option linter.all false
set_option maxRecDepth 100000
set_option maxHeartbeats 4000000
namespace PD
open PySem PySem.Spec PyProof.Rows L2
section
variable {X : Cx} {W : WX} {a b e : Expr} {fa fb : Den} {ga : Dens} {pos p : Pos}
/-! ### a list repeated, that may change later -/
def oMulM : Op2 := fun a b S => match b with
  | .int k => (match asList S a with
    | some xs => if -(2 ^ 63) ≤ k ∧ k < 2 ^ 63 ∧ xs.length * k.toNat ≤ 16777216 then some (.ok (.ref S.length) (S ++ [(List.replicate k.toNat xs).flatten])) else none
    | none => none)
  | _ => none
theorem opD_mulM : OpD X (rMulA X.K) oMulM := by
  intro H mu S x y a b res W σ Q s ra rb ho p
  unfold oMulM at ho
  split at ho
  · rename_i k
    split at ho
    · rename_i xs h1
      split at ho
      · rename_i hz
        cases ho
        cases rb
        obtain ⟨p1, vs, rfl, e1, r1⟩ := rep_list s ra h1
        exact .inr (.inr (.inl ⟨p1, _, vs, rfl, rfl, e1, hz.1, hz.2.1, by rw [r1.length, line_eq]; exact hz.2.2, p.mut s (reps_rep r1 _)⟩))
      · cases ho
    · cases ho
  · cases ho
theorem de_mulM (ha : DE X W a fa) (hb : DE X W b fb) : DE X W (.BinOp a .Mult b pos) (dBin oMulM fa fb) := de_bin op_mulAll opD_mulM ha hb
/-! ### a call without arguments -/
theorem de_call0 {k : Nat} {f : Addr} {fd : FuncData} {F : Op} {x : Str} (G : FnD X.prog X.w X.K X.mg X.base k f fd [] F) (hr : Room k X.A) (tk : L2N.Takes X W) (hm : X.mg x = some (.ref f)) (hk : PySem.W.keepIn X.K (.ref f) = true) (hb : Binds X.K fd [] [])
    (hg : Gl X x := by rfl) (hdb : (x == ("__debug__" : Str)) = false := by decide) : DE X W (.Call (.Name x p) [] [] pos) (dFn 0 F dNil) := by
  refine ⟨fun pins s σ H Q J h => wpAny_Call_Name_kw (ld_glob J hg hm (PySem.W.callWith_K0 J.kIn hk ?_) hdb)⟩
  obtain ⟨mu, S, ρ, res, st, en, hf, q⟩ := h
  have hF : F [] S = some res := hf
  have sp0 : spD X.K X.mg 0 F [] H Q (WE W σ) := spD_of st .nil rfl hF q
  exact run_fnSD (us := []) (vs := []) (dvs := []) (E := WE W) G hr hb .nil (L2N.passAt tk σ) J .nil sp0
theorem de_callC0 {k j : Nat} {F : Op} {x : Str} {st : Stmt} (G : Callee X.prog X.w X.K X.mg X.base k x st [] F) (hb : BindsAll x st []) (hr : Room j X.A) (hk : k ≤ j) (tk : L2N.Takes X W)
    (hg : Gl X x := by rfl) (hdb : (x == ("__debug__" : Str)) = false := by decide) : DE X W (.Call (.Name x p) [] [] pos) (dFn 0 F dNil) := by
  obtain ⟨fd, FD, G2⟩ := G.ex
  exact de_call0 G2 (hr.mono hk) tk G.gl FD.kp (FD.bindsN hb) hg hdb
end
end PD
set_option Elab.async false
set_option linter.all false
set_option maxRecDepth 100000
set_option maxHeartbeats 400000
namespace PD
open PySem PySem.Spec PyProof.Rows L2
section
variable {M : Model} {A : Around} {E : Value → Shared → Prop} {s : Shared} {Q : Value → Shared → Prop}
theorem is_bool_gen {v : Value} {c : Bool} (hv : ∀ p, v ≠ .builtin p) (h : Q (.bool (v == .bool c)) s) : wpAny M A (compareOp .Is v (.bool c)) Q E s := by
  cases v <;> first | exact wpAny_pure h | exact absurd rfl (hv _)
theorem relV_bool {x : V} {v : Value} {c : Bool} (r : RelV x v) : (v == Value.bool c) = decide (x = .bl c) ∧ ∀ p, v ≠ .builtin p := by
  cases x with
  | non => cases r; exact ⟨rfl, fun p e => nomatch e⟩
  | bl b => cases r; refine ⟨?_, fun p e => nomatch e⟩; cases b <;> cases c <;> rfl
  | int _ => obtain ⟨t, rfl⟩ := r; exact ⟨rfl, fun p e => nomatch e⟩
  | str _ => obtain ⟨t, rfl⟩ := r; exact ⟨rfl, fun p e => nomatch e⟩
  | byt _ => obtain ⟨t, rfl⟩ := r; exact ⟨rfl, fun p e => nomatch e⟩
  | flt _ => obtain ⟨t, rfl⟩ := r; exact ⟨rfl, fun p e => nomatch e⟩
  | ref _ => cases r; exact ⟨rfl, fun p e => nomatch e⟩
  | ty _ => cases r; exact ⟨rfl, fun p e => nomatch e⟩
end
section
variable {X : Cx} {W : WX} {a b : Expr} {fa : Den} {ta : TE} {pos : Pos}
def tIsB (c : Bool) (ta : TE) : TE := fun σ H Q => ta σ H fun x H1 => Q (.bl (decide (x = .bl c))) H1
theorem pc_isB {c : Bool} {j pos'} (ha : PE X a ta) : PC X .Is a (.Constant (.bool c) j pos') (tIsB c ta) := by
  refine ⟨fun pins s σ H Q I h => ?_⟩
  refine thn (ha.run pins s σ H _ I h) fun v s1 ⟨x, H1, I1, r1, q1⟩ => ?_
  obtain ⟨e, nb⟩ := relV_bool (c := c) r1
  exact Constant_bool (is_bool_gen nb ⟨.bl _, H1, I1, by rw [e]; rfl, q1⟩)
/-- is True, is False -/
def isBl (c : Bool) : D → Bool
  | .bl x => x == c
  | _ => false
def dIsB (c : Bool) (f : Den) : Den := fun ρ S => bnd (f ρ S) fun d S1 => some (.ok (.bl (isBl c d)) S1)
theorem rep_isBl {c : Bool} {H : Hp} {mu : List Addr} {v : V} {d : D} (r : Rep X.K X.mg H mu v d) : decide (v = .bl c) = isBl c d := by
  cases r <;> first | (exact decide_eq_false (fun z => nomatch z)) | skip
  rename_i b
  cases b <;> cases c <;> rfl
theorem de_isB {c : Bool} {j pos'} (ha : DE X W a fa) : DE X W (.Compare a [.Is] [.Constant (.bool c) j pos'] pos) (dIsB c fa) := by
  refine peI (pe_cmp (pc_isB ha)) fun σ H Q h => ?_
  obtain ⟨mu, S, ρ, res, s, en, hf, p⟩ := h
  refine rd_bnd s en hf p fun d S1 v H1 m1 x s1 en1 rp h1 p1 => ?_
  cases h1
  rw [rep_isBl rp]
  exact p1.val s1 (.bl _)
theorem bl_isB {c : Bool} {f : Den} : ∀ ρ S res, dIsB c f ρ S = some res → (∃ k S', res = .ok (.bl k) S') ∨ ∃ c ns xs S', res = .exc c ns xs S' := fun ρ S res h => by
  unfold dIsB at h
  cases e : f ρ S with
  | none => rw [e] at h; cases h
  | some r1 =>
    rw [e] at h
    cases r1 with
    | ok d S1 => cases h; exact .inl ⟨_, _, rfl⟩
    | exc c ns xs S1 => cases h; exact .inr ⟨_, _, _, _, rfl⟩
theorem dt_isB {c : Bool} {j pos'} (ha : DE X W a fa) : DT X W (.Compare a [.Is] [.Constant (.bool c) j pos'] pos) (dIsB c fa) := by
  refine ptI (pt_cmp (pc_isB ha)) fun σ H Q q => ?_
  obtain ⟨mu, S, ρ, res, s, en, hf, p⟩ := q
  have h2 : rd X.K X.mg W (dIsB c fa) σ H (fun x H' => ∃ k, x = V.bl k ∧ Q k H') := by
    refine ⟨mu, S, ρ, res, s, en, hf, ?_⟩
    rcases bl_isB ρ S res hf with ⟨k, S', rfl⟩ | ⟨c, ns, xs, S', rfl⟩
    · intro v H' mu' x s' rp
      cases rp
      exact ⟨_, rfl, p H' mu' x s'⟩
    · exact p
  obtain ⟨mu, S, ρ, res, s, en, hf, p⟩ := h2
  refine rd_bnd s en hf p fun d S1 v H1 m1 x s1 en1 rp h1 p1 => ?_
  cases h1
  rw [rep_isBl rp]
  exact p1.val s1 (.bl _)
/-- range(a, b) as a value -/
def oRange2 : Op := fun ds S => match ds with
  | [.int i, .int j] => some (.ok (.rng i j) S)
  | _ => none
theorem callD_range2 : CallD X (fun vs H Q => ∃ i j, vs = [V.int i, V.int j] ∧ ∀ p, H p = none → Q (.ref p) (upd H p (.rng i j))) oRange2 := by
  intro H mu S vs ds res W σ Q s r ho q
  unfold oRange2 at ho
  split at ho
  · cases ho
    obtain ⟨v, w, rfl, r1, r2⟩ := reps2 r
    cases r1
    cases r2
    refine ⟨_, _, rfl, fun p hp => ?_⟩
    exact q (.ref p) _ mu (Ext.fresh hp (s.free hp)) (s.fresh hp) (.rng upd_same (s.free hp))
  · cases ho
/-! ### list and tuple of a range, at once -/
def rgB (a b : Int) : Bool := decide (0 ≤ a) && decide (b ≤ 16777216) && decide (a ≤ 16777216) && decide (0 ≤ b)
theorem rgB_ok {a b : Int} (h : rgB a b = true) : RgOk a b := by
  simp only [rgB, Bool.and_eq_true, decide_eq_true_eq] at h
  exact RgOk.of_le h.1.1.1 h.1.1.2 h.1.2 h.2
theorem reps_rg {H : Hp} {mu : List Addr} (a b : Int) : Reps X.K X.mg H mu (rgV a b) (rgD a (b - a).toNat) := by
  unfold rgV rgD
  generalize (b - a).toNat = n
  generalize List.range n = xs
  induction xs with
  | nil => exact .nil
  | cons x xs ih => exact .cons (.int _) ih
def dLRg2 (f g : Den) : Den := fun ρ S => bnd (f ρ S) fun d S1 => bnd (g ρ S1) fun e S2 => match d, e with
  | .int i, .int j => if rgB i j then some (.ok (.lst (rgD i (j - i).toNat)) S2) else none
  | _, _ => none
def dLRg1 (f : Den) : Den := fun ρ S => bnd (f ρ S) fun d S1 => match d with
  | .int j => if rgB 0 j then some (.ok (.lst (rgD 0 (j - 0).toNat)) S1) else none
  | _ => none
def dTRg1 (f : Den) : Den := fun ρ S => bnd (f ρ S) fun d S1 => match d with
  | .int j => if rgB 0 j then some (.ok (.tup (rgD 0 (j - 0).toNat)) S1) else none
  | _ => none
variable {fb : Den} {p p2 pos2 : Pos}
theorem de_listRg2 (hc : X.calm = true) (hl : X.mg "list" = none) (hm : X.mg "range" = none) (ha : DE X W a fa) (hb : DE X W b fb) (hgl : Gl X "list" := by rfl) (hg : Gl X "range" := by rfl) (na : starEach [a, b] X.env = (false, eval a X.env) :: starEach [b] X.env := by rfl) (nb : starEach [b] X.env = (false, eval b X.env) :: starEach [] X.env := by rfl)
    (hp : (backTo pos2 (starEach [b] X.env)).any (·.1) = false := by rfl) (ne : starEach [.Call (.Name "range" p2) [a, b] [] pos2] X.env = (false, eval (.Call (.Name "range" p2) [a, b] [] pos2) X.env) :: starEach [] X.env := by rfl) : DE X W (.Call (.Name "list" p) [.Call (.Name "range" p2) [a, b] [] pos2] [] pos) (dLRg2 fa fb) := by
  refine peI (pe_listRg hc hgl hl (prg_2 hg hm ha hb na nb hp) ne) fun σ H Q h => ?_
  obtain ⟨mu, S, ρ, res, s, en, hf, q⟩ := h
  refine rd_bnd s en hf q fun d S1 v H1 m1 x s1 en1 rp h1 p1 => ?_
  refine rd_bnd s1 en1 h1 p1 fun d2 S2 v2 H2 m2 x2 s2 en2 rp2 h2 p2 => ?_
  split at h2
  · split at h2
    · rename_i i j hj
      cases h2
      cases rp
      cases rp2
      exact ⟨i, j, rfl, rfl, rgB_ok hj, p2.lst s2 (reps_rg i j)⟩
    · cases h2
  · cases h2
end
end PD
set_option Elab.async false
set_option linter.all false
set_option maxRecDepth 100000
set_option maxHeartbeats 400000
namespace PD
open PySem PySem.Spec PyProof.Rows L2
/-! ### a def that gives back a new list which may change -/
/-- the numbers below n0 stay, no others -/
def gLow (n0 : Nat) : Nat → Option D := fun i => if i < n0 then some (.ref i) else none
def finM (S : Store) : Option SRes → Option Res
  | some (.rt (.ref k) S1) => if S.length ≤ k then (match S1[k]? with
    | some xs => (mapRefss (gLow S.length) (S1.take S.length)).bind fun T => (mapRefs (gLow S.length) xs).map fun ys => .ok (.ref S.length) (T ++ [ys])
    | none => none) else none
  | _ => none
def fnOfM (N : List Str) (g : SDen) : Op := fun ds S => finM S (g (startD N ds) S)
section
variable {K : PySem.W.Frag} {mg : Str → Option Value} {H H1 : Hp} {mu m1 : List Addr} {S S1 : Store}
theorem low_map (s : StOk K mg H mu S) (s1 : StOk K mg H1 m1 S1) (x : Ext H mu H1 m1) {k : Nat} {a : Addr} (hk : S.length ≤ k) (ha : m1[k]? = some a) :
    (mu ++ [a]) ⊆ m1 ∧ a ∉ mu ∧ ∀ b i d', m1[i]? = some b → gLow S.length i = some d' → Rep K mg H1 (mu ++ [a]) (.ref b) d' := by
  have na : a ∉ mu := fun z => by
    obtain ⟨n, hn⟩ := List.getElem?_of_mem z
    have h1 := prefix_get x.pre hn
    have e := (List.getElem?_inj (List.getElem?_eq_some_iff.mp h1).1 s1.nd).mp (h1.trans ha.symm)
    have := (List.getElem?_eq_some_iff.mp hn).1
    rw [s.len] at this
    omega
  refine ⟨fun b hb => ?_, na, fun b i d' hb hd => ?_⟩
  · rcases List.mem_append.mp hb with z | z
    · exact x.pre.subset z
    · rw [List.mem_singleton.mp z]; exact List.mem_of_getElem? ha
  · unfold gLow at hd
    split at hd
    · rename_i hi
      cases hd
      refine .ref ?_
      have hm : i < mu.length := by rw [s.len]; exact hi
      rw [List.getElem?_append_left hm]
      have h1 := prefix_get x.pre (List.getElem?_eq_getElem hm)
      rw [hb] at h1
      rw [List.getElem?_eq_getElem hm, h1]
    · cases hd
theorem den_endM {N ps : List Str} {g : SDen} {vs : List V} {Q : VK} {E : XK} (h : spD K mg ps.length (fnOfM N g) vs H Q E) : rdS K mg (fun cls d _ H => E cls d H) g { nx := fun _ H' => Q .non H', rt := Q } (start N vs) H := by
  obtain ⟨hl, mu, S, ds, r, st, rp, hF, q⟩ := h
  unfold fnOfM at hF
  cases e : g (startD N ds) S with
  | none => rw [e] at hF; cases hF
  | some r1 =>
    rw [e] at hF
    refine ⟨mu, S, startD N ds, r1, st, start_ok N rp, e, ?_⟩
    cases r1 with
    | rt d S1 =>
      cases d with
      | ref k =>
        simp only [finM] at hF
        split at hF
        · rename_i hk
          split at hF
          · rename_i xs hx
            obtain ⟨T, hT, h2⟩ := Option.bind_eq_some_iff.mp hF
            obtain ⟨ys, hy, rfl⟩ := Option.map_eq_some_iff.mp h2
            intro v H' m' x s1 r1
            cases r1 with
            | @ref a _ ha =>
              obtain ⟨sub, na, hg⟩ := low_map st s1 x hk ha
              have xx : Ext H mu H' (mu ++ [a]) := ⟨List.prefix_append _ _, x.keep, fun b hb nb => by
                rcases List.mem_append.mp hb with z | z
                · exact absurd z nb
                · rw [List.mem_singleton.mp z] at nb ⊢; exact x.new a (List.mem_of_getElem? ha) nb⟩
              obtain ⟨vs', hv, hr⟩ := s1.at_ k a xs ha hx
              have ll : T.length = mu.length := by
                have h3 := mapRefss_len hT
                have h4 : mu.length ≤ S1.length := by rw [← s1.len]; exact x.pre.length_le
                rw [List.length_take] at h3
                have := st.len
                omega
              refine q (.ref a) H' (mu ++ [a]) xx ⟨?_, by simp [ll], fun n b ds' h1 h2 => ?_⟩ (.ref (by rw [← st.len, List.getElem?_append_right (Nat.le_refl _)]; simp))
              · rw [List.nodup_append]
                exact ⟨st.nd, by simp, fun y hy z hz => by rw [List.mem_singleton.mp hz]; exact fun w => na (w ▸ hy)⟩
              · by_cases hn : n < mu.length
                · rw [List.getElem?_append_left hn] at h1
                  rw [List.getElem?_append_left (by rw [ll]; exact hn)] at h2
                  obtain ⟨ws, h3, h4⟩ := mapRefss_get hT h2
                  rw [List.getElem?_take_of_lt (by rw [← st.len]; exact hn)] at h3
                  obtain ⟨us, hu, hru⟩ := s1.at_ n b ws (prefix_get x.pre h1) h3
                  exact ⟨us, hu, reps_map sub hg hru h4⟩
                · have hn' : n = mu.length := by
                    have := (List.getElem?_eq_some_iff.mp h1).1
                    rw [List.length_append] at this
                    simp at this
                    omega
                  subst hn'
                  rw [List.getElem?_append_right (Nat.le_refl _)] at h1
                  rw [← ll, List.getElem?_append_right (Nat.le_refl _)] at h2
                  simp at h1 h2
                  subst h1 h2
                  exact ⟨vs', hv, reps_map sub hg hr hy⟩
          · cases hF
        · cases hF
      | _ => simp only [finM] at hF; cases hF
    | _ => simp only [finM] at hF; cases hF
end
section
variable {P : Program} {w : World} {K : PySem.W.Frag} {mg : Str → Option Value} {base : Heap} {x qual : Str} {params : Arguments} {body : List Stmt} {scope : Scope} {dvs : List V} {kws : List (Str × V)} {f : Addr} {fd : FuncData}
theorem fn_denM {N ps : List Str} {k : Nat} {g : SDen} (F : FunD K x qual params body scope dvs kws f fd) (Sc : FnScope N ps scope)
    (hb : ∀ (cdv : Value) (A : Around) (outer : List Env) (s : Shared) (H : Hp) (E : XK), Room k (A.deeper (envOfC qual scope s.heap.objs.size f cdv)) →
      L2N.Takes (cxOf (L2N.CX P w) P w K mg base N qual scope f cdv A outer s H E) (fun cls d _ H => E cls d H) →
      DSs (cxOf (L2N.CX P w) P w K mg base N qual scope f cdv A outer s H E) (fun cls d _ H => E cls d H) body g) : FnD P w K mg base (k + 1) f fd ps (fnOfM N g) := by
  exact F.ok Sc (fun vs H Q E h => h.1) fun cdv A outer s H vs Q E hr h => ⟨_, hb cdv A outer s H E hr (L2N.takes_of rfl rfl rfl rfl), den_endM h⟩
end
/-- the same, told of a def -/
class IsM (O : Op) (N : outParam (List Str)) (g : outParam SDen) : Prop where
  eq : O = fnOfM N g
theorem fn_mk {O : Op} {N : List Str} {g : SDen} [i : IsM O N g] {ds xs : List D} {S : Store} (h : g (startD N ds) S = some (.rt (.ref S.length) (S ++ [xs]))) (hs : mapRefss (gLow S.length) S = some S) (hc : closeds xs = true) : O ds S = some (.ok (.ref S.length) (S ++ [xs])) := by
  rw [i.eq]
  unfold fnOfM
  rw [h]
  simp [finM, hs, maps_closed hc]
end PD
set_option Elab.async false
set_option linter.all false
set_option maxRecDepth 100000
set_option maxHeartbeats 400000
namespace PD
open PySem PySem.Spec PyProof.Rows L2
section
variable {X : Cx} {W : WX} {a b : Expr} {fa fb : Den} {pos p p2 pos2 : Pos}
theorem de_listRg1 (hc : X.calm = true) (hl : X.mg "list" = none) (hm : X.mg "range" = none) (ha : DE X W a fa) (hgl : Gl X "list" := by rfl) (hg : Gl X "range" := by rfl) (na : starEach [a] X.env = (false, eval a X.env) :: starEach [] X.env := by rfl)
    (ne : starEach [.Call (.Name "range" p2) [a] [] pos2] X.env = (false, eval (.Call (.Name "range" p2) [a] [] pos2) X.env) :: starEach [] X.env := by rfl) : DE X W (.Call (.Name "list" p) [.Call (.Name "range" p2) [a] [] pos2] [] pos) (dLRg1 fa) := by
  refine peI (pe_listRg hc hgl hl (prg_1 hg hm ha na) ne) fun σ H Q h => ?_
  obtain ⟨mu, S, ρ, res, s, en, hf, q⟩ := h
  refine rd_bnd s en hf q fun d S1 v H1 m1 x s1 en1 rp h1 p1 => ?_
  split at h1
  · split at h1
    · rename_i j hj
      cases h1
      cases rp
      exact ⟨j, rfl, rgB_ok hj, p1.lst s1 (reps_rg 0 j)⟩
    · cases h1
  · cases h1
theorem de_tupRg1 (hc : X.calm = true) (hl : X.mg "tuple" = none) (hm : X.mg "range" = none) (ha : DE X W a fa) (hgl : Gl X "tuple" := by rfl) (hg : Gl X "range" := by rfl) (na : starEach [a] X.env = (false, eval a X.env) :: starEach [] X.env := by rfl)
    (ne : starEach [.Call (.Name "range" p2) [a] [] pos2] X.env = (false, eval (.Call (.Name "range" p2) [a] [] pos2) X.env) :: starEach [] X.env := by rfl) : DE X W (.Call (.Name "tuple" p) [.Call (.Name "range" p2) [a] [] pos2] [] pos) (dTRg1 fa) := by
  refine peI (pe_tupRg hc hgl hl (prg_1 hg hm ha na) ne) fun σ H Q h => ?_
  obtain ⟨mu, S, ρ, res, s, en, hf, q⟩ := h
  refine rd_bnd s en hf q fun d S1 v H1 m1 x s1 en1 rp h1 p1 => ?_
  split at h1
  · split at h1
    · rename_i j hj
      cases h1
      cases rp
      exact ⟨j, rfl, rgB_ok hj, p1.tup s1 (reps_rg 0 j)⟩
    · cases h1
  · cases h1
end
end PD
set_option Elab.async false
set_option linter.all false
set_option maxRecDepth 100000
namespace PD
open PySem PySem.Spec PyProof.Rows L2
section
variable {X : Cx} {W : WX} {a b c e : Expr} {es : List Expr} {fa fb fc : Den} {ga gb : Dens} {pos p p1 p2 : Pos}
/-! ### a def as a value -/
theorem de_fnG {x : Str} {C : Addr} (hm : X.mg x = some (.ref C)) (hg : Gl X x := by rfl) (hd : (x == ("__debug__" : Str)) = false := by decide) : DE X W (.Name x p) (dC (.fn x)) :=
  de_const (v := .ref C) (pe_glob hg hm rfl hd) fun _ _ => .fn hm
/-- a call of the def that the slot i holds: tab names those that it may be -/
def dFnL (i n : Nat) (tab : List (Str × Op)) (g : Dens) : Den := fun ρ S => match ρ[i]? with
  | some (some (.fn x)) => (match tab.find? (fun q => q.1 == x) with
    | some q => dFn n q.2 g ρ S
    | none => none)
  | _ => none
def tCallX (X : Cx) (W : WX) (k i : Nat) (t : TA) : TE := fun σ H Q => ∃ f fd ps sp, FnOk X.prog X.w X.K X.mg X.base (L2N.CX X.prog X.w) k f fd ps sp ∧ PySem.W.keepIn X.K (.ref f) = true ∧ Binds X.K fd ps [] ∧ σ[i]? = some (some (.ref f)) ∧ t σ H fun vs H1 => sp vs H1 Q (WE W σ)
theorem pe_callX {k i : Nat} {x : Str} {t : TA} (hr : Room k X.A) (tk : L2N.Takes X W) (hN : X.N[i]? = some x) (hv : Vis X.env.scope x) (ha : PA X (e :: es) t)
    (hdb : (x == ("__debug__" : Str)) = false := by decide) (hcd : (x == ("__classdict__" : Str)) = false := by decide)
    (he : starEach (e :: es) X.env = (false, eval e X.env) :: starEach es X.env := by rfl) (hpl : (backTo pos (starEach es X.env)).any (·.1) = false := by rfl) : PE X (.Call (.Name x p) (e :: es) [] pos) (tCallX X W k i t) := by
  refine ⟨fun pins s σ H Q I h => ?_⟩
  obtain ⟨f, fd, ps, sp, F, hk, hb, hs, ht⟩ := h
  refine wpAny_Call_Name_kw (thn ((pe_var (pos := p) hN hv hdb hcd).run pins s σ H (fun v H1 => v = .ref f ∧ H1 = H) I ⟨.ref f, hs, rfl, rfl⟩) fun u s1 ⟨v, H1, I1, r1, q1⟩ => ?_)
  obtain ⟨rfl, rfl⟩ := q1
  cases r1
  refine PySem.W.callWith_K (h₀ := X.base) I.ok.mod.kin hk (thn (ha.run pos pins s1 σ _ _ I1 ht) fun us s2 ⟨vs, H2, I2, r, q⟩ => ⟨I2.kIn, ?_⟩) he hpl
  exact run_fnSD F hr hb .nil (L2N.passAt tk σ) I2 r (by rw [List.append_nil]; exact q)
/-- what the table says of a def -/
structure TabOk (P : Program) (w : World) (K : PySem.W.Frag) (mg : Str → Option Value) (base : Heap) (k n : Nat) (tab : List (Str × Op)) : Prop where
  ok : ∀ q ∈ tab, ∃ st ps, ps.length = n ∧ Callee P w K mg base k q.1 st ps q.2 ∧ BindsAll q.1 st ps
theorem TabOk.nil {P : Program} {w : World} {K : PySem.W.Frag} {mg : Str → Option Value} {base : Heap} {k n : Nat} : TabOk P w K mg base k n [] := ⟨fun _ h => nomatch h⟩
theorem TabOk.cons {P : Program} {w : World} {K : PySem.W.Frag} {mg : Str → Option Value} {base : Heap} {k n j : Nat} {tab : List (Str × Op)} {x : Str} {st : Stmt} {ps : List Str} {F : Op} (c : Callee P w K mg base j x st ps F) (hj : j ≤ k) (b : BindsAll x st ps) (hl : ps.length = n) (h : TabOk P w K mg base k n tab) : TabOk P w K mg base k n ((x, F) :: tab) := ⟨fun q hq => by
  rcases List.mem_cons.mp hq with rfl | hq
  · obtain ⟨fd, FD, G2⟩ := c.ex
    exact ⟨st, ps, hl, ⟨c.gl, fd, FD, G2.mono hj⟩, b⟩
  · exact h.ok q hq⟩
theorem de_callL {k j i n : Nat} {tab : List (Str × Op)} {x : Str} (T : TabOk X.prog X.w X.K X.mg X.base k n tab) (hr : Room j X.A) (hk : k ≤ j) (tk : L2N.Takes X W) (ha : DA X W (e :: es) ga)
    (hN : X.N[i]? = some x := by rfl) (hv : Vis X.env.scope x := by first | exact Or.inl rfl | exact Or.inr (Or.inl rfl) | exact Or.inr (Or.inr rfl))
    (hdb : (x == ("__debug__" : Str)) = false := by decide) (hcd : (x == ("__classdict__" : Str)) = false := by decide)
    (he : starEach (e :: es) X.env = (false, eval e X.env) :: starEach es X.env := by rfl) (hpl : (backTo pos (starEach es X.env)).any (·.1) = false := by rfl) :
    DE X W (.Call (.Name x p) (e :: es) [] pos) (dFnL i n tab ga) := by
  refine peI (pe_callX (hr.mono hk) tk hN hv ha hdb hcd he hpl) fun σ H Q h => ?_
  obtain ⟨mu, S, ρ, res, s, en, hf, q⟩ := h
  unfold dFnL at hf
  split at hf
  · rename_i y hy
    split at hf
    · rename_i z hz
      obtain ⟨v, hv1, hv2⟩ := en.at_ i _ hy
      have ey : z.1 = y := by simpa using List.find?_some hz
      obtain ⟨st, ps, hl, c, b⟩ := T.ok z (List.mem_of_find?_eq_some hz)
      obtain ⟨fd, FD, G2⟩ := c.ex
      cases hv2 with
      | fn hm =>
        rw [← ey, c.gl] at hm
        cases hm
        refine ⟨_, fd, ps, _, G2, FD.kp, FD.bindsN b, hv1, ?_⟩
        refine rds_bndl s en hf q fun ds S1 vs H1 m1 x s1 en1 rp h1 q1 => ?_
        split at h1
        · rename_i hl2
          exact spD_of s1 rp (hl2.trans hl.symm) h1 q1
        · cases h1
    · cases hf
  · cases hf
/-! ### in, not in: flat things -/
def flatD : D → Bool
  | .non => true
  | .bl _ => true
  | .int _ => true
  | .str _ => true
  | _ => false
def eqF : D → D → Bool
  | .non, .non => true
  | .bl a, .bl b => a == b
  | .bl a, .int b => (if a then 1 else 0) == b
  | .int a, .bl b => a == (if b then 1 else 0)
  | .int a, .int b => a == b
  | .str a, .str b => a == b
  | _, _ => false
/-- in a row of flat things, for what is not flat -/
def oInT : Op2 := fun a b S => match b with
  | .tup _ => (match toPy S a, toPy S b with
    | some x, some (.tuple ys) => if SeqAt.shaped x && SeqAt.shaped (.tuple ys) && (PyData.depthAll ys == 0) then some (.ok (.bl (ys.any fun z => PyData.eqv z x)) S) else none
    | _, _ => none)
  | _ => none
def oIn : Op2 := fun a b S => match asSeq S b with
  | some xs => if flatD a && xs.all flatD then some (.ok (.bl (xs.any fun y => eqF y a)) S) else oInT a b S
  | none => none
def oNotIn : Op2 := fun a b S => match asSeq S b with
  | some xs => if flatD a && xs.all flatD then some (.ok (.bl (!xs.any fun y => eqF y a)) S) else none
  | none => none
theorem rep_flat {H : Hp} {mu : List Addr} {v : V} {d : D} (r : Rep X.K X.mg H mu v d) (h : flatD d = true) : flatV v = true := by
  cases r <;> first | rfl | (cases h; done)
theorem reps_flat {H : Hp} {mu : List Addr} : ∀ {vs : List V} {ds : List D}, Reps X.K X.mg H mu vs ds → ds.all flatD = true → vs.all flatV = true
  | _, _, .nil, _ => rfl
  | _, _, .cons r t, h => by
    rw [List.all_cons, Bool.and_eq_true] at h ⊢
    exact ⟨rep_flat r h.1, reps_flat t h.2⟩
theorem rep_eqF {H : Hp} {mu : List Addr} {v u : V} {d e : D} (r : Rep X.K X.mg H mu v d) (q : Rep X.K X.mg H mu u e) (h : flatD d = true) (k : flatD e = true) : eqV v u = eqF d e := by
  cases r <;> (first | (cases h; done) | skip) <;> cases q <;> (first | (cases k; done) | skip) <;> rfl
theorem reps_inV {H : Hp} {mu : List Addr} {u : V} {e : D} (q : Rep X.K X.mg H mu u e) (k : flatD e = true) : ∀ {vs : List V} {ds : List D}, Reps X.K X.mg H mu vs ds → ds.all flatD = true → (vs.any fun y => eqV y u) = ds.any fun y => eqF y e
  | _, _, .nil, _ => rfl
  | _, _, .cons r t, h => by
    rw [List.all_cons, Bool.and_eq_true] at h
    rw [List.any_cons, List.any_cons, rep_eqF r q h.1 k, reps_inV q k t h.2]
def rInT (K : PySem.W.Frag) : R2 := fun x y H Q => ∃ d ds, Dp K H x d ∧ Dp K H y (.tuple ds) ∧ SeqAt.shaped d = true ∧ SeqAt.shaped (.tuple ds) = true ∧ PyData.depthAll ds = 0 ∧ Q (.bl (ds.any fun z => PyData.eqv z d)) H
def rInU (K : PySem.W.Frag) : R2 := fun x y H Q => rIn K false x y H Q ∨ rInT K x y H Q
theorem op_inU {X : Cx} (hu : X.A.units + 64 < cLine) : OpR X (compareOp .In) (rInU X.K) := fun pins s σ H x y v u Q I rx ry h => by
  rcases h with h | ⟨d, ds, hd, he, sd, se, dz, q⟩
  · exact op_in_seq pins s σ H x y v u Q I rx ry h
  · obtain ⟨as, r1⟩ := Dp.reads I d x v hd rx
    obtain ⟨bs, r2⟩ := Dp.reads I (PyData.tuple ds) y u he ry
    exact SeqAt.in_tuple_reads r2 r1 (SeqAt.canLay_of_shaped se) (SeqAt.canLay_of_shaped sd) (by rw [dz]; simp only [Nat.zero_min]; omega) ⟨.bl (ds.any fun z => PyData.eqv z d), H, I, rfl, q⟩
theorem opD_in (X : Cx) : OpD X (rInU X.K) oIn := fun H mu S x y a b res W σ Q s ra rb ho p => by
  unfold oIn at ho
  split at ho
  · rename_i xs hx
    split at ho
    · rename_i hf
      cases ho
      rw [Bool.and_eq_true] at hf
      obtain ⟨q, vs, rfl, hq, r⟩ := rep_seq s rb hx
      refine .inl ⟨q, vs, rfl, hq, rep_flat ra hf.1, reps_flat r hf.2, ?_⟩
      show Q (.bl (vs.any fun y => eqV y x)) H
      rw [reps_inV ra hf.1 r hf.2]
      exact p.val s (.bl _)
    · unfold oInT at ho
      split at ho
      · split at ho
        · rename_i d ys h1 h2
          split at ho
          · rename_i hs
            cases ho
            rw [Bool.and_eq_true, Bool.and_eq_true, beq_iff_eq] at hs
            exact .inr ⟨d, ys, rep_dp (pyg_ok s 3) ra h1, rep_dp (pyg_ok s 3) rb h2, hs.1.1, hs.1.2, hs.2, p.val s (.bl _)⟩
          · cases ho
        · cases ho
      · cases ho
  · cases ho
theorem opD_notIn (X : Cx) : OpD X (rIn X.K true) oNotIn := fun H mu S x y a b res W σ Q s ra rb ho p => by
  unfold oNotIn at ho
  split at ho
  · rename_i xs hx
    split at ho
    · rename_i hf
      cases ho
      rw [Bool.and_eq_true] at hf
      obtain ⟨q, vs, rfl, hq, r⟩ := rep_seq s rb hx
      refine ⟨q, vs, rfl, hq, rep_flat ra hf.1, reps_flat r hf.2, ?_⟩
      show Q (.bl (!vs.any fun y => eqV y x)) H
      rw [reps_inV ra hf.1 r hf.2]
      exact p.val s (.bl _)
    · cases ho
  · cases ho
theorem ok_in : ∀ (x y : D) (S : Store) (res : Res), oIn x y S = some res → ∃ k, res = .ok (.bl k) S := fun x y S res h => by
  unfold oIn at h
  split at h
  · split at h
    · cases h; exact ⟨_, rfl⟩
    · unfold oInT at h
      split at h
      · split at h
        · split at h
          · cases h; exact ⟨_, rfl⟩
          · cases h
        · cases h
      · cases h
  · cases h
theorem ok_notIn : ∀ (x y : D) (S : Store) (res : Res), oNotIn x y S = some res → ∃ k, res = .ok (.bl k) S := fun x y S res h => by
  unfold oNotIn at h
  split at h
  · split at h
    · cases h; exact ⟨_, rfl⟩
    · cases h
  · cases h
theorem de_in (hu : X.A.units + 64 < cLine) (ha : DE X W a fa) (hb : DE X W b fb) (hm : behindInMarks .In b = false := by rfl) : DE X W (.Compare a [.In] [b] pos) (dBin oIn fa fb) := de_cmp (op_inU hu) (opD_in X) ha hb hm
theorem de_notIn (ha : DE X W a fa) (hb : DE X W b fb) (hm : behindInMarks .NotIn b = false := by rfl) : DE X W (.Compare a [.NotIn] [b] pos) (dBin oNotIn fa fb) := de_cmp op_notIn_seq (opD_notIn X) ha hb hm
theorem dt_in (hu : X.A.units + 64 < cLine) (ha : DE X W a fa) (hb : DE X W b fb) (hm : behindInMarks .In b = false := by rfl) : DT X W (.Compare a [.In] [b] pos) (dBin oIn fa fb) := dt_cmp (op_inU hu) (opD_in X) ha hb hm ok_in
theorem dt_notIn (ha : DE X W a fa) (hb : DE X W b fb) (hm : behindInMarks .NotIn b = false := by rfl) : DT X W (.Compare a [.NotIn] [b] pos) (dBin oNotIn fa fb) := dt_cmp op_notIn_seq (opD_notIn X) ha hb hm ok_notIn
end
/-! ### is not True, is not False -/
section
variable {M : Model} {A : Around} {E : Value → Shared → Prop} {s : Shared} {Q : Value → Shared → Prop}
theorem isnot_bool_gen {v : Value} {c : Bool} (hv : ∀ p, v ≠ .builtin p) (h : Q (.bool (!(v == .bool c))) s) : wpAny M A (compareOp .IsNot v (.bool c)) Q E s := by
  cases v <;> first | exact wpAny_pure h | exact absurd rfl (hv _)
end
section
variable {X : Cx} {W : WX} {a b : Expr} {fa : Den} {ta : TE} {pos : Pos}
def tIsNB (c : Bool) (ta : TE) : TE := fun σ H Q => ta σ H fun x H1 => Q (.bl (!decide (x = .bl c))) H1
theorem pc_isNB {c : Bool} {j pos'} (ha : PE X a ta) : PC X .IsNot a (.Constant (.bool c) j pos') (tIsNB c ta) := by
  refine ⟨fun pins s σ H Q I h => ?_⟩
  refine thn (ha.run pins s σ H _ I h) fun v s1 ⟨x, H1, I1, r1, q1⟩ => ?_
  obtain ⟨e, nb⟩ := relV_bool (c := c) r1
  exact Constant_bool (isnot_bool_gen nb ⟨.bl _, H1, I1, by rw [e]; rfl, q1⟩)
def dIsNB (c : Bool) (f : Den) : Den := fun ρ S => bnd (f ρ S) fun d S1 => some (.ok (.bl (!isBl c d)) S1)
theorem de_isNB {c : Bool} {j pos'} (ha : DE X W a fa) : DE X W (.Compare a [.IsNot] [.Constant (.bool c) j pos'] pos) (dIsNB c fa) := by
  refine peI (pe_cmp (pc_isNB ha)) fun σ H Q h => ?_
  obtain ⟨mu, S, ρ, res, s, en, hf, p⟩ := h
  refine rd_bnd s en hf p fun d S1 v H1 m1 x s1 en1 rp h1 p1 => ?_
  cases h1
  rw [rep_isBl rp]
  exact p1.val s1 (.bl _)
theorem bl_isNB {c : Bool} {f : Den} : ∀ ρ S res, dIsNB c f ρ S = some res → (∃ k S', res = .ok (.bl k) S') ∨ ∃ c ns xs S', res = .exc c ns xs S' := fun ρ S res h => by
  unfold dIsNB at h
  cases e : f ρ S with
  | none => rw [e] at h; cases h
  | some r1 =>
    rw [e] at h
    cases r1 with
    | ok d S1 => cases h; exact .inl ⟨_, _, rfl⟩
    | exc c ns xs S1 => cases h; exact .inr ⟨_, _, _, _, rfl⟩
theorem dt_isNB {c : Bool} {j pos'} (ha : DE X W a fa) : DT X W (.Compare a [.IsNot] [.Constant (.bool c) j pos'] pos) (dIsNB c fa) := by
  refine ptI (pt_cmp (pc_isNB ha)) fun σ H Q q => ?_
  obtain ⟨mu, S, ρ, res, s, en, hf, p⟩ := q
  have h2 : rd X.K X.mg W (dIsNB c fa) σ H (fun x H' => ∃ k, x = V.bl k ∧ Q k H') := by
    refine ⟨mu, S, ρ, res, s, en, hf, ?_⟩
    rcases bl_isNB ρ S res hf with ⟨k, S', rfl⟩ | ⟨c, ns, xs, S', rfl⟩
    · intro v H' mu' x s' rp
      cases rp
      exact ⟨_, rfl, p H' mu' x s'⟩
    · exact p
  obtain ⟨mu, S, ρ, res, s, en, hf, p⟩ := h2
  refine rd_bnd s en hf p fun d S1 v H1 m1 x s1 en1 rp h1 p1 => ?_
  cases h1
  rw [rep_isBl rp]
  exact p1.val s1 (.bl _)
end
end PD
set_option Elab.async false
set_option linter.all false
set_option maxRecDepth 100000
set_option maxHeartbeats 1000000
/-! enumerate over a tuple -/
namespace PySem
open Sem (wp)
theorem meets_enumerate_newB1 {v : Value} {o : Obj} {H : Heap → Prop} (B : Begins v o H) :
    Meets (Builtin.«enumerate.__new__» ⟨[.type "enumerate", v], []⟩) (fun _ R s => H s.heap ∧
      R (.ok (.ret (.ref (s.heap.push o).objs.size))) { s with heap := (s.heap.push o).push { cls := .type "enumerate", data := .fields #[.none, .bool false, .ref s.heap.objs.size, rawInt 0, .none, .none] } }) :=
  .of_wp fun prog w A R s h => by
    obtain ⟨hp, g, d, tk, os⟩ := s; obtain ⟨h1, h⟩ := h
    have hsub := sub_enumerate
    have q1 : ∀ {A' : Around} {E : Value → Shared → Prop} {Q : Value → Shared → Prop}, Q (.ref hp.objs.size) ⟨hp.push o, g, d, tk, os⟩ → wpAny (model prog w) A' (pyIter v) Q E ⟨hp, g, d, tk, os⟩ :=
      fun q => B.iter prog w _ _ ⟨hp, g, d, tk, os⟩ _ h1 q
    wp_walk using q1
    refine wpAny_stack_any fun st => wpAny_pure ?_
    split
    · rename_i c _ _ _ _ _
      cases (c == Value.type "enumerate")
      · wp_walk using q1
        exact ⟨_, rfl, h⟩
      · wp_walk using q1
        exact ⟨_, rfl, h⟩
    · wp_walk using q1
      exact ⟨_, rfl, h⟩
section
variable {prog : Program} {w : World} {A : Around} {E : Value → Shared → Prop} {s : Shared}
theorem enum_begins1 {v : Value} {o : Obj} {H : Heap → Prop} {Q : Value → Shared → Prop} (B : Begins v o H) (h1 : H s.heap)
    (h : ∀ h', IsEnum h' (s.heap.objs.size + 1) s.heap.objs.size 0 .none → h'.get? s.heap.objs.size = some o → h'.objs.size = s.heap.objs.size + 2 →
      (∀ b o, s.heap.get? b = some o → h'.get? b = some o) → Q (.ref (s.heap.objs.size + 1)) { s with heap := h' }) :
    wpAny (model prog w) A (call (.type "enumerate") [v]) Q E s := by
  refine callType_new F.called_enumerate (by decide) (F.typeCall_enumerate_1 _) (F.newCall_enumerate_1 _) (fun obj => F.args_object_init_2 obj _) F.entry_enumerate_new
    (meets_enumerate_newB1 B) ⟨h1, ?_⟩
  have hz : (s.heap.push o).objs.size = s.heap.objs.size + 1 := Heap.size_push ..
  show _ ∧ _
  rw [hz]
  have he : IsEnum ((s.heap.push o).push { cls := .type "enumerate", data := .fields #[.none, .bool false, .ref s.heap.objs.size, rawInt 0, .none, .none] }) (s.heap.objs.size + 1) s.heap.objs.size 0 .none := by
    have := Heap.get?_push_size (s.heap.push o) (o := { cls := .type "enumerate", data := .fields #[.none, .bool false, .ref s.heap.objs.size, rawInt 0, .none, .none] }) rfl
    rw [hz] at this; exact this
  refine ⟨⟨_, he, rfl⟩, h _ he (Heap.get?_push_of_some _ (Heap.get?_push_size _ B.free)) (by rw [Heap.size_push, hz]) fun b o x => Heap.get?_push_of_some _ (Heap.get?_push_of_some _ x)⟩
end
end PySem
namespace PD
open PySem PySem.Spec PyProof.Rows L2
/-- the tuple at a, each item in a new pair -/
def IteT (K : PySem.W.Frag) (a : Addr) : It :=
  ⟨fun i H => ∃ (xs : List V) (x : V), SqT K H a xs ∧ xs[i]? = some x, fun i H v H' => ∃ T x, v = .ref T ∧ H T = none ∧ H' = upd H T (.tup [.int (i : Nat), x]) ∧ ∀ xs, SqT K H a xs → xs[i]? = some x, fun i H => ∃ xs : List V, SqT K H a xs ∧ xs.length = i⟩
theorem turn_enumT {P : Program} {w : World} {K : PySem.W.Frag} {elts : List Expr} {kk : Nat} {tpos : Pos} (a e it : Addr) :
    Turn P w K (.Tuple elts kk tpos) (IteT K a) [e, it] e (fun i h => (∃ old, IsEnum h e it ((i : Nat) : Int) old) ∧ h.IsTupleIter it a i ∧ e ≠ it ∧ a ≠ e ∧ a ≠ it) where
  mem := by simp
  obj := fun i h st b hb => by
    obtain ⟨⟨old, he⟩, ⟨o, ho, hc, hd⟩, _⟩ := st
    have e' : b = e ∨ b = it := by simpa using hb
    rcases e' with z | z
    · rw [z]; exact ⟨_, he, fun v q => nomatch q⟩
    · rw [z]; exact ⟨o, ho, fun v q => by rw [hd] at q; cases q⟩
  keep := fun i h h' st k => let ⟨⟨old, he⟩, hi, hne⟩ := st; ⟨⟨old, k e (by simp) _ he⟩, hi.at fun o q => k it (by simp) o q, hne⟩
  item := by
    intro X hP hw hK hc i pins s σ H E I hf st hg
    subst hP hw hK
    obtain ⟨⟨old, he⟩, hit, hne, hae, hai⟩ := st
    obtain ⟨xs, x, hq, hx⟩ := hg
    obtain ⟨its, rv, p, hz⟩ := I.tuple hq
    obtain ⟨u, hu, ru⟩ := rv.get hx
    have hel : e < s.heap.objs.size := Heap.lt_size he
    have hil : it < s.heap.objs.size := by obtain ⟨_, q, _⟩ := hit; exact Heap.lt_size q
    have pT : s.heap.IsTuple a its.toArray := p
    have hi : i < its.toArray.size := by
      have := rv.length
      have := (List.getElem?_eq_some_iff.mp hx).1
      simp
      omega
    refine wpAny_pyNext_enum_itemC (c := (i : Int)) (Draws.tuple (A := X.A.in1) (I.ok.hd hc) it a hai its.toArray) he ⟨hit, pT⟩ hi hne (by simp [hne, Ne.symm hae]) fun z h' tk hz' ho hst' hT hsz hk => ?_
    have ez : z = u := by
      have hu' : its.toArray[i]? = some u := by simpa using hu
      exact Option.some.inj (hz'.symm.trans hu')
    subst ez
    refine ⟨_, rfl, wpAny_letOwnedTupleGo_enum (s := { s with heap := h', toks := tk + 1 }) ho fun h'' he' sb => ?_⟩
    have hT2 : h''.get? s.heap.objs.size = some { cls := .type "tuple", data := .seq #[.int i tk, z] } := (sb.2 _ (Nat.ne_of_gt hel)).trans hT
    have new : ObjOk X.prog X.w (upd H s.heap.objs.size (.tup [.int (i : Nat), x])) h'' s.heap.objs.size (.tup [.int (i : Nat), x]) :=
      ⟨by show 2 ≤ sizeLine; decide, [.int i tk, z], .cons ⟨_, rfl⟩ (.cons ru .nil), ⟨_, hT2, rfl, _, rfl⟩⟩
    have I1 : Inv X pins σ (upd H s.heap.objs.size (.tup [.int (i : Nat), x])) { s with heap := h'', toks := tk + 1 } :=
      I.turnedNew (ch := [e, it]) (fun b ob hb q => (sb.2 b (fun z => hb (by simp [z]))).trans (hk b ob (fun z => hb (by simp [z])) (fun z => hb (by simp [z])) q)) hf (Nat.le_refl _) new
    refine ⟨.ref s.heap.objs.size, _, I1, rfl, ⟨_, x, rfl, I.hok.fresh (Nat.le_refl _), rfl, fun ys hy => by rw [I.tuple_inj hy hq]; exact hx⟩, ⟨⟨z, ?_⟩, hst'.1.at fun o q => (sb.2 it (Ne.symm hne)).trans q, hne, hae, hai⟩, fun b hb => ?_⟩
    · have e1 : ((i + 1 : Nat) : Int) = (i : Int) + 1 := by omega
      rw [e1]; exact he'
    · have hb' : b < s.heap.objs.size := by
        have e' : b = e ∨ b = it := by simpa using hb
        rcases e' with z | z
        · rw [z]; exact hel
        · rw [z]; exact hil
      rw [upd_ne (Nat.ne_of_lt hb')]
      exact (hf b hb).1
  done := by
    intro X hP hw hK hc i pins s σ H E I hf st hg
    subst hP hw hK
    obtain ⟨⟨old, he⟩, hit, hne, hae, hai⟩ := st
    obtain ⟨xs, hq, hx⟩ := hg
    obtain ⟨its, rv, p, hz⟩ := I.tuple hq
    obtain ⟨f0, f1, f2, f3, f4, f5⟩ := hf it (by simp)
    have hl := rv.length
    have pT : s.heap.IsTuple a its.toArray := p
    have hi : i = its.toArray.size := by simp; omega
    subst hi
    exact wpAny_pyNext_enum_endD (Draws.tuple (A := X.A.in1) (I.ok.hd hc) it a hai its.toArray) he ⟨hit, pT⟩ fun h' eb => ⟨rfl, I.turned (t' := s.toks) (fun b o hb q => eb b o hb q) f0 f1 f3 f4 f5⟩
  self := fun A i s Q E st h => let ⟨⟨_, he⟩, _⟩ := st; wpAny_pyIter_enum he h
/-- enumerate(x), x a list or a tuple -/
def iEnumA (K : PySem.W.Frag) (ta : TA) : TI := fun σ H R => ta σ H fun vs H1 => ∃ a xs, vs = [.ref a] ∧ ((SqL K H1 a xs ∧ R (Ite K a) H1) ∨ (SqT K H1 a xs ∧ R (IteT K a) H1))
theorem pi_enumA {X : Cx} {e : Expr} {ta : TA} {p pos tpos : Pos} {elts : List Expr} {kk : Nat} (hg : Gl X "enumerate") (hm : X.mg "enumerate" = none) (ha : PA X [e] ta) (hs : starEach [e] X.env = [(false, eval e X.env)] := by rfl) :
    PI X (.Tuple elts kk tpos) (.Call (.Name "enumerate" p) [e] [] pos) (iEnumA X.K ta) := by
  refine ⟨fun pins s σ H R I h => ?_⟩
  refine Call_ (ld_blt I hg hm boot_enumerate (PyProof.Rows.callWith_type1 (thn (ha.run pos pins s σ H _ I h) fun us s1 ⟨vs, H1, I1, r1, q1⟩ => ?_) hs rfl))
  obtain ⟨a, xs, ex, hq⟩ := q1
  subst ex
  cases r1 with
  | cons r rr =>
    cases rr
    cases r
    have fresh : ∀ b ∈ [s1.heap.objs.size + 1, s1.heap.objs.size], s1.heap.objs.size ≤ b := fun b hb => by
      have e' : b = s1.heap.objs.size + 1 ∨ b = s1.heap.objs.size := by simpa using hb
      rcases e' with z | z
      · rw [z]; exact Nat.le_add_right _ _
      · rw [z]; exact Nat.le_refl _
    rcases hq with ⟨hq, q⟩ | ⟨hq, q⟩
    · obtain ⟨its, rv, p', hz⟩ := I1.list hq
      refine call_enumerate_list p'.isList fun h' he hit hsz hk => wpAny_pyIter_enum he ?_
      have I2 : Inv X pins σ H1 { s1 with heap := h' } := I1.kept (t' := s1.toks) hk
      exact ⟨s1.heap.objs.size + 1, [s1.heap.objs.size + 1, s1.heap.objs.size], _, _, H1, rfl, I2, turn_enum a (s1.heap.objs.size + 1) s1.heap.objs.size, ⟨⟨.none, he⟩, hit, Nat.succ_ne_self _⟩, fun b hb => I1.fpOk (fresh b hb) (I1.hok.fresh (fresh b hb)), q⟩
    · obtain ⟨its, rv, p', hz⟩ := I1.tuple hq
      have pT : s1.heap.IsTuple a its.toArray := p'
      have al : a < s1.heap.objs.size := by obtain ⟨o, ho, _⟩ := pT; exact Heap.lt_size ho
      refine enum_begins1 (begins_tuple a its.toArray) pT fun h' he hit hsz hk => wpAny_pyIter_enum he ?_
      have I2 : Inv X pins σ H1 { s1 with heap := h' } := I1.kept (t' := s1.toks) hk
      exact ⟨s1.heap.objs.size + 1, [s1.heap.objs.size + 1, s1.heap.objs.size], _, _, H1, rfl, I2, turn_enumT a (s1.heap.objs.size + 1) s1.heap.objs.size, ⟨⟨.none, he⟩, ⟨_, hit, rfl, rfl⟩, Nat.succ_ne_self _, Nat.ne_of_lt (Nat.lt_succ_of_lt al), Nat.ne_of_lt al⟩, fun b hb => I1.fpOk (fresh b hb) (I1.hok.fresh (fresh b hb)), q⟩
section
variable {X : Cx} {W : WX} {a : Expr} {tg : Expr} {fa : Den} {pos p : Pos}
theorem walks_enumT {a : Addr} {vs : List V} {items : List D} : Walks X.K X.mg (IteT X.K a) (fun H mu _ => SqTm X.K H mu a vs ∧ Reps X.K X.mg H mu vs items) (ckOf none (enumD 0 items)) (enumD 0 items) where
  mono := fun H mu S H' mu' S' h x _ => ⟨x.sqT h.1, h.2.mono x⟩
  has := fun _ _ _ _ => trivial
  go := fun i H mu S h _ hi => by
    rw [enumD_length] at hi
    exact ⟨vs, vs[i]'(by rw [h.2.length]; exact hi), h.1.sq, List.getElem?_eq_getElem _⟩
  yld := fun i H mu x H' S d h s y hd => by
    obtain ⟨T, z, rfl, hT, rfl, hz⟩ := y
    obtain ⟨xd, h1, rfl⟩ := enumD_get 0 i items d hd
    obtain ⟨v, h2, h3⟩ := h.2.get h1
    have e := hz vs h.1.sq
    rw [h2] at e
    have ez : z = v := (Option.some.inj e).symm
    subst ez
    have n := s.free hT
    have xx : Ext H mu (upd H T (.tup [.int (i : Nat), z])) mu := Ext.fresh hT n
    refine ⟨xx, s.fresh hT, .tup (.inl ⟨.inl upd_same, n⟩) (.cons ?_ (.cons (h3.mono xx) .nil))⟩
    rw [Nat.zero_add]
    exact .int _
  stop := fun H mu S h _ => ⟨vs, h.1.sq, by rw [enumD_length, h.2.length]⟩
/-- enumerate over a list or a tuple -/
def dEnumA (f : Den) : Iens := fun ρ S => bndi (f ρ S) fun d S1 => match d with
  | .lst xs => some (.ok (enumD 0 xs) none S1)
  | .tup xs => some (.ok (enumD 0 xs) none S1)
  | .scr ns => some (.ok (enumD 0 (ns.map .int)) none S1)
  | _ => none
theorem di_enumA {elts : List Expr} {kk : Nat} {tpos : Pos} (hm : X.mg "enumerate" = none) (ha : DE X W a fa) (hg : Gl X "enumerate" := by rfl) (hs : starEach [a] X.env = [(false, eval a X.env)] := by rfl) :
    DI X W (.Tuple elts kk tpos) (.Call (.Name "enumerate" p) [a] [] pos) (dEnumA fa) := by
  refine piI (pi_enumA hg hm (pa_cons ha pa_nil hs) hs) fun σ H R h => ?_
  obtain ⟨mu, S, ρ, r, s, en, hf, q⟩ := rdI_of h
  refine rd_bndI s en hf q fun d S1 v H1 m1 x s1 en1 rp h1 q1 => ?_
  cases rp with
  | lst hq hn rv =>
    cases h1
    exact ⟨_, _, rfl, .inl ⟨.inl (.inl hq), q1 _ _ H1 m1 walks_enum ⟨.inl ⟨.inl hq, hn⟩, rv⟩ (Ext.refl _ _) s1⟩⟩
  | tup hq rv =>
    cases h1
    exact ⟨_, _, rfl, .inr ⟨hq.sq, q1 _ _ H1 m1 walks_enumT ⟨hq, rv⟩ (Ext.refl _ _) s1⟩⟩
  | scr hq =>
    cases h1
    exact ⟨_, _, rfl, .inl ⟨hq.sq, q1 _ _ H1 m1 walks_enum ⟨hq, Reps.ints _⟩ (Ext.refl _ _) s1⟩⟩
  | _ => cases h1
end
end PD
set_option Elab.async false
set_option linter.all false
set_option maxRecDepth 100000
set_option maxHeartbeats 4000000
namespace My
open PySem PySem.Spec PyProof.Rows L2 PD
/-! printed by denprint.py -/
def top (i : Nat) : Stmt := PySem.Challenge.pw_stayorgo_k45_all_dice_make_the_course.main.body.getD i (.Pass ⟨0, 0, 0, 0⟩)
def inCls : Stmt → List Stmt
  | .ClassDef (body := b) .. => b
  | _ => []
def meth (i j : Nat) : Stmt := (inCls (top i)).getD j (.Pass ⟨0, 0, 0, 0⟩)
end My
set_option Elab.async false
set_option linter.all false
set_option maxRecDepth 100000
set_option maxHeartbeats 0
namespace MyE
open PySem PySem.Spec PyProof.Rows L2 PD My
def dd (x : Str) (i : Nat) : He.DefD := ⟨(x, none), x, x, defArgs (top i), defBody (top i), defScope (top i), [], []⟩
def fn0 : List He.DefD := [dd "_law_share" 48, dd "_law_dues" 49, dd "_law_is_led" 50, dd "_law_gcd" 43, dd "_law_lowest" 44, dd "is_integer" 2, dd "is_bottom" 5, dd "is_pair" 6, dd "is_quotient" 7, dd "is_amount" 8, dd "require" 14, dd "require_quotients" 19, dd "is_less" 20, dd "is_die" 29, dd "are_dice" 38, dd "is_number" 3, dd "is_brink" 22, dd "are_brinks" 23, dd "is_brinks" 24, dd "are_coins" 26]
def fn1 : List He.DefD := [dd "is_coins" 27, dd "next_by" 36, dd "is_below" 4, dd "size_of" 15, dd "require_place" 17, dd "require_die" 30, dd "coin_word" 35, dd "is_early" 31, dd "require_number" 16, dd "require_brink_word" 32, dd "go_word" 33, dd "stay_word" 34, dd "word_by" 39, dd "led" 40, dd "_law_all_dice" 51, dd "_law_brinks" 46, dd "_law_coins" 47, dd "arrow_by" 37, dd "_law_refused" 54, dd "_law_marks_refused" 56]
def fn2 : List He.DefD := [dd "_law_numbers" 42, dd "_law_refusals" 55, dd "_law_web" 45, dd "_law_below" 52, dd "_law_words" 53, dd "law" 57, ⟨("NotUsable", some "__init__"), "__init__", "NotUsable.__init__", defArgs (meth 12 0), defBody (meth 12 0), defScope (meth 12 0), [], []⟩]
def fn : List He.DefD := fn0 ++ fn1 ++ fn2
def fa0 : List He.Fa := [.glo "_law_share", .glo "_law_dues", .glo "_law_is_led", .glo "_law_gcd", .glo "_law_lowest", .glo "is_integer", .glo "is_bottom", .glo "is_pair", .glo "is_quotient", .glo "is_amount", .glo "require", .glo "require_quotients", .glo "is_less", .glo "is_die", .glo "are_dice", .glo "is_number", .glo "is_brink", .glo "are_brinks", .glo "is_brinks", .glo "are_coins", .glo "is_coins", .glo "next_by", .glo "is_below", .glo "size_of", .glo "require_place", .glo "require_die", .glo "coin_word", .glo "is_early", .glo "require_number", .glo "require_brink_word"]
def fa1 : List He.Fa := [.glo "go_word", .glo "stay_word", .glo "word_by", .glo "led", .glo "_law_all_dice", .glo "_law_brinks", .glo "_law_coins", .glo "arrow_by", .glo "_law_refused", .glo "_law_marks_refused", .glo "_law_numbers", .glo "_law_refusals", .glo "_law_web", .glo "_law_below", .glo "_law_words", .glo "law", .glo "StayError", .glo "WebError", .glo "NotUsable", .free "all", .free "bool", .free "enumerate", .free "int", .free "isinstance", .free "len", .free "list", .free "range", .free "sum", .free "tuple"]
def fa : List He.Fa := fa0 ++ fa1
def fe0 : List Fe := [.con "gcd" "math.gcd", .oex "NotUsable", .no "NotUsable" "word", .no "NotUsable" "at", .ex "NotUsable" (.own "NotUsable") true]
def fe : List Fe := fe0
def nm0 : List Str := ["gcd", "is_integer", "is_number", "is_below", "is_bottom", "is_pair", "is_quotient", "is_amount", "StayError", "WebError", "NotUsable", "require", "size_of", "require_number", "require_place", "require_quotients", "is_less", "is_brink", "are_brinks", "is_brinks", "are_coins", "is_coins", "is_die", "require_die", "is_early", "require_brink_word", "go_word", "stay_word", "coin_word", "next_by"]
def nm1 : List Str := ["arrow_by", "are_dice", "word_by", "led", "_law_numbers", "_law_gcd", "_law_lowest", "_law_web", "_law_brinks", "_law_coins", "_law_share", "_law_dues", "_law_is_led", "_law_all_dice", "_law_below", "_law_words", "_law_refused", "_law_refusals", "_law_marks_refused"]
def nm : List Str := nm0 ++ nm1
abbrev R : PySem.W.OpenRow := PySem.W.OpenLaw.row PySem.Challenge.rw_stayorgo_k45_all_dice_make_the_course
abbrev hk : PySem.W.Hook := hookE 5 fa fn fe
def ob (s : PySem.W.SharedT) : AlE := obsEG 5 fa fn fe (HeadRun.getT s)
theorem ob_eq (s : PySem.W.SharedT) : ob s = hk.obs s.abs := obsEG_eq (HeadRun.getT_eq s)
def fnA : List He.DefD := fn0 ++ fn1
def fnB : List He.DefD := fn2
theorem fn_ab : fn = fnA ++ fnB := by
  simp only [fn, fnA, fnB, List.append_assoc]
theorem both {α A B C D E : Type} {o : Option α} {f : α → A} {g : α → B} {h : α → C} {k : α → D} {l : α → E} {a : A} {b : B} {c : C} {d : D} {e : E} (e1 : o.map (fun x => (f x, g x)) = some (a, b)) (e2 : o.map (fun x => (h x, k x)) = some (c, d)) (e3 : o.map l = some e) : o.map (fun x => (f x, g x, (h x, (k x, l x)))) = some (a, b, (c, (d, e))) := by
  cases o with
  | none => cases e1
  | some x =>
    simp only [Option.map_some, Option.some.injEq, Prod.mk.injEq] at *
    exact ⟨e1.1, e1.2, e2.1, e2.2, e3⟩
theorem comb {α : Type} {o : Option α} {h ka kb kc K : α → Bool} (e2 : o.map (fun x => (h x, ka x)) = some (true, true)) (e3 : o.map kb = some true) (e4 : o.map kc = some true) (q : ∀ x, K x = (ka x && (kb x && kc x))) : o.map (fun x => (h x, K x)) = some (true, true) := by
  cases o with
  | none => cases e3
  | some x =>
    simp only [Option.map_some, Option.some.injEq, Prod.mk.injEq] at *
    exact ⟨e2.1, by rw [q, e2.2, e3, e4]; rfl⟩
theorem combL {α E : Type} {o : Option α} {la lb L : α → List E} {da db D : List E} (e5 : o.map la = some da) (e6 : o.map lb = some db) (q : ∀ x, L x = la x ++ lb x) (q2 : D = da ++ db) : o.map L = some D := by
  cases o with
  | none => cases e5
  | some x =>
    simp only [Option.map_some, Option.some.injEq] at *
    rw [q, e5, e6, q2]
open HeadRun PySem.W in
theorem runA (w : World) : (wholeF (fun p => stepQ (denQ tabQ) p w) fenceQ 12000 R.prog).map (fun x => (looksF R.prog x.1.heap x.2.abs, seenQ (PySem.W.view R.prog [0, 57]) nm (importedModules R.prog.main.body) (fun s => xlAt (PySem.W.view R.prog [0, 57]) [] s && recOk R.toRowW.records s) x.2.abs)) = some (true, openGood (PySem.W.view R.prog [0, 57]) nm) := by
  kernel_rfl
open HeadRun PySem.W He in
theorem runB1 (w : World) : (wholeF (fun p => stepQ (denQ tabQ) p w) fenceQ 12000 R.prog).map (fun x => ((fe.all fun f => f.ok (frG (getT x.2) (asD (getT x.2) 5))), (fa.all fun f => f.ok (frG (getT x.2) (asD (getT x.2) 5))))) = some (true, true) := by
  kernel_rfl
open HeadRun PySem.W He in
theorem runB2 (w : World) : (wholeF (fun p => stepQ (denQ tabQ) p w) fenceQ 12000 R.prog).map (fun x => (fnA.all fun d => d.ok (frG (getT x.2) (asD (getT x.2) 5)))) = some true := by
  kernel_rfl
open HeadRun PySem.W He in
theorem runB3 (w : World) : (wholeF (fun p => stepQ (denQ tabQ) p w) fenceQ 12000 R.prog).map (fun x => (fnB.all fun d => d.ok (frG (getT x.2) (asD (getT x.2) 5)))) = some true := by
  kernel_rfl
open HeadRun PySem.W He in
theorem runC1 (w : World) : (wholeF (fun p => stepQ (denQ tabQ) p w) fenceQ 12000 R.prog).map (fun x => fnA.map fun d => fnW (frG (getT x.2) (asD (getT x.2) 5)) d.at_) = some (fnA.map DefD.val) := by
  kernel_rfl
open HeadRun PySem.W He in
theorem runC2 (w : World) : (wholeF (fun p => stepQ (denQ tabQ) p w) fenceQ 12000 R.prog).map (fun x => fnB.map fun d => fnW (frG (getT x.2) (asD (getT x.2) 5)) d.at_) = some (fnB.map DefD.val) := by
  kernel_rfl
open HeadRun PySem.W He in
theorem runB (w : World) : (wholeF (fun p => stepQ (denQ tabQ) p w) fenceQ 12000 R.prog).map (fun x => ((fe.all fun f => f.ok (frG (getT x.2) (asD (getT x.2) 5))), ((fa.all fun f => f.ok (frG (getT x.2) (asD (getT x.2) 5))) && fn.all fun d => d.ok (frG (getT x.2) (asD (getT x.2) 5))))) = some (true, true) := comb (runB1 w) (runB2 w) (runB3 w) fun x => by
  show (_ && _) = _
  rw [fn_ab, List.all_append]
open HeadRun PySem.W He in
theorem runC (w : World) : (wholeF (fun p => stepQ (denQ tabQ) p w) fenceQ 12000 R.prog).map (fun x => fn.map fun d => fnW (frG (getT x.2) (asD (getT x.2) 5)) d.at_) = some (fn.map DefD.val) := combL (runC1 w) (runC2 w) (fun x => by
  show List.map _ _ = _
  rw [fn_ab, List.map_append]) (by rw [fn_ab, List.map_append])
theorem run (w : World) : HeadRun.RunEqI R (PySem.W.view R.prog [0, 57]) hk ob 12000 nm w := both (runA w) (runB w) (runC w)
end MyE
set_option Elab.async false
set_option linter.all false
set_option maxRecDepth 100000
set_option maxHeartbeats 4000000
namespace My
/-! ### loads as rational vectors: the plain mathematics (core Lean alone) -/
def cd (xs : List Int) : Int := xs.foldl (fun g x => (Int.gcd g x : Int)) 0
theorem cdF_dvd : ∀ (xs : List Int) (g : Int), xs.foldl (fun g x => (Int.gcd g x : Int)) g ∣ g ∧ ∀ x ∈ xs, xs.foldl (fun g x => (Int.gcd g x : Int)) g ∣ x
  | [], g => ⟨Int.dvd_refl g, fun _ h => nomatch h⟩
  | y :: ys, g => by
    obtain ⟨h1, h2⟩ := cdF_dvd ys (Int.gcd g y)
    refine ⟨Int.dvd_trans h1 (Int.gcd_dvd_left ..), fun x hx => ?_⟩
    rcases List.mem_cons.mp hx with rfl | hx
    · exact Int.dvd_trans h1 (Int.gcd_dvd_right ..)
    · exact h2 x hx
theorem cdF_of : ∀ (xs : List Int) (g d : Int), d ∣ g → (∀ x ∈ xs, d ∣ x) → d ∣ xs.foldl (fun g x => (Int.gcd g x : Int)) g
  | [], g, d, h, _ => h
  | y :: ys, g, d, h, hx => cdF_of ys _ d (Int.dvd_coe_gcd h (hx y List.mem_cons_self)) fun x hm => hx x (List.mem_cons_of_mem _ hm)
theorem cdF_nonneg : ∀ (xs : List Int) (g : Int), 0 ≤ g → 0 ≤ xs.foldl (fun g x => (Int.gcd g x : Int)) g
  | [], g, h => h
  | y :: ys, g, _ => cdF_nonneg ys _ (by show 0 ≤ ((Int.gcd g y : Nat) : Int); omega)
theorem cd_dvd {xs : List Int} {x : Int} (h : x ∈ xs) : cd xs ∣ x := (cdF_dvd xs 0).2 x h
theorem cd_of {xs : List Int} {d : Int} (h : ∀ x ∈ xs, d ∣ x) : d ∣ cd xs := cdF_of xs 0 d (Int.dvd_zero d) h
theorem cd_nonneg (xs : List Int) : 0 ≤ cd xs := cdF_nonneg xs 0 (by omega)
theorem cd_pos {xs : List Int} {x : Int} (h : x ∈ xs) (hx : x ≠ 0) : 0 < cd xs := by
  have h1 := cd_nonneg xs
  have h2 := cd_dvd h
  by_cases z : cd xs = 0
  · rw [z] at h2
    exact absurd (Int.zero_dvd.mp h2) hx
  · omega
theorem cd_bot {ts : List Int} {b : Int} (hb : 1 ≤ b) : 0 < cd (ts ++ [b]) ∧ cd (ts ++ [b]) ≤ b := by
  have hm : b ∈ ts ++ [b] := List.mem_append_right _ (List.mem_singleton.mpr rfl)
  exact ⟨cd_pos hm (by omega), Int.le_of_dvd (by omega) (cd_dvd hm)⟩
/-- one greatest divisor is the other -/
theorem cd_eq {xs : List Int} {d : Int} (h0 : 0 ≤ d) (h1 : ∀ x ∈ xs, d ∣ x) (h2 : ∀ e, (∀ x ∈ xs, e ∣ x) → e ∣ d) : cd xs = d :=
  Int.dvd_antisymm (cd_nonneg xs) h0 (h2 _ fun x hx => cd_dvd hx) (cd_of h1)
theorem cd_mul (k : Int) (hk : 0 ≤ k) (xs : List Int) : cd (xs.map (k * ·)) = k * cd xs := by
  by_cases z : k = 0
  · subst z
    rw [Int.zero_mul]
    refine cd_eq (by decide) (fun x hx => ?_) fun e _ => Int.dvd_zero e
    obtain ⟨y, _, rfl⟩ := List.mem_map.mp hx
    simp
  · refine cd_eq (Int.mul_nonneg hk (cd_nonneg xs)) (fun x hx => ?_) fun e he => ?_
    · obtain ⟨y, hy, rfl⟩ := List.mem_map.mp hx
      exact Int.mul_dvd_mul_left k (cd_dvd hy)
    · -- k divides the common divisor of the products
      have kd : k ∣ cd (xs.map (k * ·)) := cd_of fun x hx => by
        obtain ⟨y, _, rfl⟩ := List.mem_map.mp hx
        exact Int.dvd_mul_right ..
      obtain ⟨m, hm⟩ := kd
      have md : m ∣ cd xs := cd_of fun y hy => by
        have := cd_dvd (List.mem_map.mpr ⟨y, hy, rfl⟩ : k * y ∈ xs.map (k * ·))
        rw [hm] at this
        exact Int.dvd_of_mul_dvd_mul_left z this
      have e1 : e ∣ cd (xs.map (k * ·)) := cd_of he
      rw [hm] at e1
      exact Int.dvd_trans e1 (Int.mul_dvd_mul_left k md)
def gt (xs : List Int) (i : Nat) : Int := xs.getD i 0
theorem gt_get {xs : List Int} {i : Nat} (h : i < xs.length) : gt xs i = xs[i] := by simp [gt, List.getD, List.getElem?_eq_getElem h]
theorem gt_mem {xs : List Int} {i : Nat} (h : i < xs.length) : gt xs i ∈ xs := by rw [gt_get h]; exact List.getElem_mem h
theorem gt_map {xs : List Int} {f : Int → Int} {i : Nat} (h : i < xs.length) : gt (xs.map f) i = f (gt xs i) := by
  rw [gt_get (by simpa using h), gt_get h, List.getElem_map]
theorem gt_range {n : Nat} {f : Nat → Int} {i : Nat} (h : i < n) : gt ((List.range n).map f) i = f i := by
  rw [gt_get (by simpa using h)]; simp
theorem gt_ext {xs ys : List Int} (hl : xs.length = ys.length) (h : ∀ i < xs.length, gt xs i = gt ys i) : xs = ys := by
  refine List.ext_getElem hl fun i h1 h2 => ?_
  have := h i h1
  rwa [gt_get h1, gt_get h2] at this
theorem gt_out {xs : List Int} {i : Nat} (h : xs.length ≤ i) : gt xs i = 0 := by simp [gt, List.getD, List.getElem?_eq_none h]
/-- in lowest terms -/
def lowT (ts : List Int) (b : Int) : List Int := ts.map (· / cd (ts ++ [b]))
def lowB (ts : List Int) (b : Int) : Int := b / cd (ts ++ [b])
theorem low_mul (k : Int) (hk : 1 ≤ k) (ts : List Int) (b : Int) (hb : 1 ≤ b) : lowT (ts.map (k * ·)) (k * b) = lowT ts b ∧ lowB (ts.map (k * ·)) (k * b) = lowB ts b := by
  have e : ts.map (k * ·) ++ [k * b] = (ts ++ [b]).map (k * ·) := by simp
  have g := cd_mul k (by omega) (ts ++ [b])
  rw [← e] at g
  unfold lowT lowB
  rw [g]
  refine ⟨?_, Int.mul_ediv_mul_of_pos _ _ (by omega)⟩
  rw [List.map_map]
  refine List.map_congr_left fun x _ => ?_
  exact Int.mul_ediv_mul_of_pos _ _ (by omega)
theorem low_ext {ts us : List Int} {b c : Int} (hb : 1 ≤ b) (hc : 1 ≤ c) (hl : ts.length = us.length) (h : ∀ i < ts.length, gt ts i * c = gt us i * b) : lowT ts b = lowT us c ∧ lowB ts b = lowB us c := by
  have e : ts.map (c * ·) = us.map (b * ·) := by
    refine gt_ext (by simpa using hl) fun i hi => ?_
    have hi1 : i < ts.length := by simpa using hi
    rw [gt_map hi1, gt_map (by omega)]
    have := h i hi1
    rw [Int.mul_comm c, Int.mul_comm b]
    exact this
  have a1 := low_mul c hc ts b hb
  have a2 := low_mul b hb us c hc
  rw [e, Int.mul_comm c b] at a1
  exact ⟨a1.1.symm.trans a2.1, a1.2.symm.trans a2.2⟩
/-- what a load in lowest terms is -/
theorem low_spec (ts : List Int) (b : Int) (hb : 1 ≤ b) (h0 : ∀ t ∈ ts, 0 ≤ t) :
    (lowT ts b).length = ts.length ∧ 1 ≤ lowB ts b ∧ lowB ts b ≤ b ∧ (∀ z ∈ lowT ts b, 0 ≤ z ∧ ∃ t ∈ ts, z ≤ t) ∧ (∀ i < ts.length, gt (lowT ts b) i * b = gt ts i * lowB ts b) ∧ cd (lowT ts b ++ [lowB ts b]) = 1 := by
  obtain ⟨g0, g1⟩ := cd_bot (ts := ts) hb
  have dv : ∀ x ∈ ts ++ [b], cd (ts ++ [b]) ∣ x := fun x hx => cd_dvd hx
  have gr : ∀ d : Int, (∀ x ∈ ts ++ [b], d ∣ x) → d ∣ cd (ts ++ [b]) := fun d hd => cd_of hd
  unfold lowT lowB
  refine ⟨by simp, ?_, ?_, ?_, ?_, ?_⟩
  all_goals generalize hg : cd (ts ++ [b]) = g at *
  · obtain ⟨v, hv⟩ := dv b (List.mem_append_right _ (List.mem_singleton.mpr rfl))
    exact Int.le_ediv_of_mul_le g0 (by omega)
  · exact Int.ediv_le_self _ (by omega)
  · intro z hz
    obtain ⟨t, ht, rfl⟩ := List.mem_map.mp hz
    exact ⟨Int.ediv_nonneg (h0 t ht) (by omega), t, ht, Int.ediv_le_self _ (h0 t ht)⟩
  · intro i hi
    rw [gt_map hi]
    have hm : gt ts i ∈ ts := gt_mem hi
    obtain ⟨u, hu⟩ := dv _ (List.mem_append_left _ hm)
    obtain ⟨v, hv⟩ := dv b (List.mem_append_right _ (List.mem_singleton.mpr rfl))
    have e2 : b / g = v := by rw [hv]; exact Int.mul_ediv_cancel_left _ (by omega)
    have e1 : gt ts i / g = u := by rw [hu]; exact Int.mul_ediv_cancel_left _ (by omega)
    rw [e1, e2, hu]
    conv => lhs; rw [hv]
    rw [← Int.mul_assoc, Int.mul_comm u g]
  · have e : ts.map (· / g) ++ [b / g] = (ts ++ [b]).map (· / g) := by simp
    have e2 : ((ts ++ [b]).map (· / g)).map (g * ·) = ts ++ [b] := by
      rw [List.map_map]
      conv => rhs; rw [← List.map_id (ts ++ [b])]
      refine List.map_congr_left fun x hx => ?_
      obtain ⟨u, hu⟩ := dv x hx
      show g * (x / g) = x
      rw [hu, Int.mul_ediv_cancel_left _ (by omega)]
    have := cd_mul g (by omega) ((ts ++ [b]).map (· / g))
    rw [e2, hg] at this
    rw [e]
    have h1 : g * 1 = g * cd ((ts ++ [b]).map (· / g)) := by rw [Int.mul_one]; exact this
    exact (Int.eq_of_mul_eq_mul_left (by omega) h1).symm
end My
set_option Elab.async false
set_option linter.all false
set_option maxRecDepth 100000
set_option maxHeartbeats 4000000
set_option exponentiation.threshold 20000
namespace My
/-! ### sums -/
def sm : Nat → (Nat → Rat) → Rat
  | 0, _ => 0
  | n + 1, f => sm n f + f n
theorem sm_congr : ∀ {n : Nat} {f g : Nat → Rat}, (∀ i < n, f i = g i) → sm n f = sm n g
  | 0, _, _, _ => rfl
  | n + 1, f, g, h => by
    show sm n f + f n = sm n g + g n
    rw [sm_congr fun i hi => h i (by omega), h n (by omega)]
theorem sm_add : ∀ (n : Nat) (f g : Nat → Rat), sm n (fun i => f i + g i) = sm n f + sm n g
  | 0, _, _ => by simp [sm, Rat.add_zero]
  | n + 1, f, g => by
    show sm n (fun i => f i + g i) + (f n + g n) = (sm n f + f n) + (sm n g + g n)
    rw [sm_add n f g]; grind
theorem sm_sub : ∀ (n : Nat) (f g : Nat → Rat), sm n (fun i => f i - g i) = sm n f - sm n g
  | 0, _, _ => by simp [sm, Rat.sub_self]
  | n + 1, f, g => by
    show sm n (fun i => f i - g i) + (f n - g n) = (sm n f + f n) - (sm n g + g n)
    rw [sm_sub n f g]; grind
theorem sm_mul : ∀ (n : Nat) (c : Rat) (f : Nat → Rat), sm n (fun i => c * f i) = c * sm n f
  | 0, c, _ => by simp [sm, Rat.mul_zero]
  | n + 1, c, f => by
    show sm n (fun i => c * f i) + c * f n = c * (sm n f + f n)
    rw [sm_mul n c f]; grind
theorem sm_le : ∀ {n : Nat} {f g : Nat → Rat}, (∀ i < n, f i ≤ g i) → sm n f ≤ sm n g
  | 0, _, _, _ => Rat.le_refl
  | n + 1, f, g, h => by
    have h1 := sm_le (n := n) (f := f) (g := g) fun i hi => h i (by omega)
    have h2 := h n (by omega)
    show sm n f + f n ≤ sm n g + g n
    grind
theorem sm_zero : ∀ (n : Nat), sm n (fun _ => 0) = 0
  | 0 => rfl
  | n + 1 => by show sm n (fun _ => 0) + 0 = 0; rw [sm_zero n, Rat.add_zero]
theorem sm_nonneg {n : Nat} {f : Nat → Rat} (h : ∀ i < n, 0 ≤ f i) : 0 ≤ sm n f := by
  have := sm_le (n := n) (f := fun _ => 0) (g := f) h
  rwa [sm_zero] at this
/-- a sum of whole numbers -/
def sI (n : Nat) (f : Nat → Int) : Int := ((List.range n).map f).sum
theorem sI_succ (n : Nat) (f : Nat → Int) : sI (n + 1) f = sI n f + f n := by simp [sI, List.range_succ]
theorem sI_cast : ∀ (n : Nat) (f : Nat → Int), ((sI n f : Int) : Rat) = sm n fun i => (f i : Rat)
  | 0, _ => rfl
  | n + 1, f => by
    rw [sI_succ]
    show ((sI n f + f n : Int) : Rat) = sm n (fun i => (f i : Rat)) + (f n : Rat)
    rw [Rat.intCast_add, sI_cast n f]
theorem sI_bound : ∀ (n : Nat) (f : Nat → Int) (M : Int), (∀ i < n, 0 ≤ f i ∧ f i ≤ M) → 0 ≤ sI n f ∧ sI n f ≤ n * M
  | 0, _, M, _ => by simp [sI]
  | n + 1, f, M, h => by
    obtain ⟨a, b⟩ := sI_bound n f M fun i hi => h i (by omega)
    obtain ⟨c, d⟩ := h n (by omega)
    rw [sI_succ]
    have : ((n + 1 : Nat) : Int) * M = n * M + M := by rw [Int.natCast_add, Int.add_mul]; simp
    omega
/-! ### fractions -/
theorem rat_eq {a b c d : Int} (hb : 1 ≤ b) (hd : 1 ≤ d) : ((a : Rat) / (b : Rat) = (c : Rat) / (d : Rat)) ↔ a * d = c * b := by
  have nb : (b : Rat) ≠ 0 := by
    intro h
    have := Rat.intCast_eq_zero_iff.mp h
    omega
  have nd : (d : Rat) ≠ 0 := by
    intro h
    have := Rat.intCast_eq_zero_iff.mp h
    omega
  constructor
  · intro h
    have : (a : Rat) * d = c * b := by grind
    rw [← Rat.intCast_mul, ← Rat.intCast_mul] at this
    exact Rat.intCast_inj.mp this
  · intro h
    have : (a : Rat) * d = c * b := by rw [← Rat.intCast_mul, ← Rat.intCast_mul, h]
    grind
theorem cast_pos {b : Int} (h : 1 ≤ b) : (0 : Rat) < (b : Rat) := Rat.intCast_pos.mpr (by omega)
theorem rat_le {a b c d : Int} (hb : 1 ≤ b) (hd : 1 ≤ d) : ((a : Rat) / (b : Rat) ≤ (c : Rat) / (d : Rat)) ↔ a * d ≤ c * b := by
  have nb := cast_pos hb
  have nd := cast_pos hd
  have e1 : (a : Rat) = (a : Rat) / b * b := by grind
  have e2 : (c : Rat) = (c : Rat) / d * d := by grind
  generalize hx : (a : Rat) / b = x at *
  generalize hy : (c : Rat) / d = y at *
  rw [← Rat.intCast_le_intCast, Rat.intCast_mul, Rat.intCast_mul, e1, e2]
  have p : (0 : Rat) < (b : Rat) * d := Rat.mul_pos nb nd
  constructor
  · intro h
    have := Rat.mul_le_mul_of_nonneg_right h (Rat.le_of_lt p)
    grind
  · intro h
    refine Rat.le_of_mul_le_mul_right (c := (b : Rat) * d) ?_ p
    grind
/-! ### the one load in lowest terms of a rational vector -/
def dn : Nat → (Nat → Rat) → Nat
  | 0, _ => 1
  | n + 1, q => dn n q * (q n).den
theorem dn_pos : ∀ (n : Nat) (q : Nat → Rat), 0 < dn n q
  | 0, _ => Nat.one_pos
  | n + 1, q => Nat.mul_pos (dn_pos n q) (q n).den_pos
theorem dn_dvd : ∀ {n i : Nat} (q : Nat → Rat), i < n → (q i).den ∣ dn n q
  | n + 1, i, q, h => by
    by_cases e : i = n
    · subst e; exact Nat.dvd_mul_left ..
    · exact Nat.dvd_trans (dn_dvd q (by omega)) (Nat.dvd_mul_right ..)
def rpT (n : Nat) (q : Nat → Rat) : List Int := (List.range n).map fun i => (q i).num * ((dn n q / (q i).den : Nat) : Int)
def rpB (n : Nat) (q : Nat → Rat) : Int := (dn n q : Nat)
theorem rpB_pos (n : Nat) (q : Nat → Rat) : 1 ≤ rpB n q := by
  have := dn_pos n q
  show (1 : Int) ≤ ((dn n q : Nat) : Int)
  omega
theorem rpT_len (n : Nat) (q : Nat → Rat) : (rpT n q).length = n := by simp [rpT]
theorem rat_num_den (x : Rat) : x = (x.num : Rat) / (x.den : Nat) := by
  have := Rat.num_divInt_den x
  rw [Rat.divInt_eq_div] at this
  exact this.symm
theorem rpT_get {n i : Nat} (q : Nat → Rat) (h : i < n) : (gt (rpT n q) i : Rat) / (rpB n q : Rat) = q i := by
  unfold rpT rpB
  rw [gt_range h]
  obtain ⟨k, hk⟩ := dn_dvd q h
  have dp := (q i).den_pos
  have kp : 0 < k := Nat.pos_of_ne_zero fun z => by
    have := dn_pos n q
    rw [hk, z] at this
    simp at this
  rw [hk, Nat.mul_div_cancel_left _ dp]
  have e := rat_num_den (q i)
  generalize (q i).num = a at *
  generalize (q i).den = d at *
  rw [e]
  have nd : ((d : Nat) : Rat) ≠ 0 := by
    intro z
    have := Rat.natCast_eq_zero_iff.mp z
    omega
  have nk : ((k : Nat) : Rat) ≠ 0 := by
    intro z
    have := Rat.natCast_eq_zero_iff.mp z
    omega
  rw [Rat.intCast_mul, Rat.intCast_natCast, Rat.intCast_natCast, Rat.natCast_mul]
  grind
theorem low_rp {n : Nat} {ts : List Int} {b : Int} {q : Nat → Rat} (hb : 1 ≤ b) (hl : ts.length = n) (h : ∀ i < n, q i = (gt ts i : Rat) / (b : Rat)) : lowT ts b = lowT (rpT n q) (rpB n q) ∧ lowB ts b = lowB (rpT n q) (rpB n q) := by
  refine low_ext hb (rpB_pos n q) (by rw [hl, rpT_len]) fun i hi => ?_
  rw [hl] at hi
  refine (rat_eq hb (rpB_pos n q)).mp ?_
  rw [rpT_get q hi, h i hi]
theorem rp_congr {n : Nat} {p q : Nat → Rat} (h : ∀ i < n, p i = q i) : lowT (rpT n p) (rpB n p) = lowT (rpT n q) (rpB n q) ∧ lowB (rpT n p) (rpB n p) = lowB (rpT n q) (rpB n q) :=
  low_rp (rpB_pos n p) (rpT_len n p) fun i hi => by rw [rpT_get p hi, h i hi]
/-- the vector is made of small whole numbers over one -/
def FB (B n : Nat) (q : Nat → Rat) : Prop := ∃ (ts : List Int) (b : Int), ts.length = n ∧ 1 ≤ b ∧ b < 2 ^ B ∧ (∀ t ∈ ts, 0 ≤ t ∧ t < 2 ^ B) ∧ ∀ i < n, q i = (gt ts i : Rat) / (b : Rat)
theorem pow_le {A B : Nat} (h : A ≤ B) : (2 : Int) ^ A ≤ 2 ^ B := by
  have := Nat.pow_le_pow_right (n := 2) (by decide) h
  exact_mod_cast this
theorem FB.mono {A B n : Nat} {q : Nat → Rat} (h : FB A n q) (hl : A ≤ B) : FB B n q := by
  obtain ⟨ts, b, h1, h2, h3, h4, h5⟩ := h
  have := pow_le hl
  exact ⟨ts, b, h1, h2, by omega, fun t ht => ⟨(h4 t ht).1, by have := (h4 t ht).2; omega⟩, h5⟩
theorem FB.congr {B n : Nat} {p q : Nat → Rat} (h : FB B n p) (e : ∀ i < n, q i = p i) : FB B n q := by
  obtain ⟨ts, b, h1, h2, h3, h4, h5⟩ := h
  exact ⟨ts, b, h1, h2, h3, h4, fun i hi => by rw [e i hi, h5 i hi]⟩
theorem FB.nonneg {B n : Nat} {q : Nat → Rat} (h : FB B n q) : ∀ i < n, 0 ≤ q i := by
  obtain ⟨ts, b, h1, h2, h3, h4, h5⟩ := h
  intro i hi
  rw [h5 i hi]
  have e : (0 : Rat) = ((0 : Int) : Rat) / ((1 : Int) : Rat) := by rw [Rat.intCast_zero, Rat.intCast_one]; grind
  rw [e]
  refine (rat_le (by decide) h2).mpr ?_
  have := (h4 _ (gt_mem (by omega : i < ts.length))).1
  omega
/-- made of the numbers f i over b -/
theorem FB.mk' {B n : Nat} {q : Nat → Rat} (f : Nat → Int) (b : Int) (h2 : 1 ≤ b) (h3 : b < 2 ^ B) (h4 : ∀ i < n, 0 ≤ f i ∧ f i < 2 ^ B) (h5 : ∀ i < n, q i = (f i : Rat) / (b : Rat)) : FB B n q :=
  ⟨(List.range n).map f, b, by simp, h2, h3, fun t ht => by
    obtain ⟨i, hi, rfl⟩ := List.mem_map.mp ht
    exact h4 i (List.mem_range.mp hi), fun i hi => by rw [gt_range hi]; exact h5 i hi⟩
theorem FB.get {B n : Nat} {q : Nat → Rat} (h : FB B n q) : ∃ (f : Nat → Int) (b : Int), 1 ≤ b ∧ b < 2 ^ B ∧ (∀ i < n, 0 ≤ f i ∧ f i < 2 ^ B) ∧ ∀ i < n, q i = (f i : Rat) / (b : Rat) := by
  obtain ⟨ts, b, h1, h2, h3, h4, h5⟩ := h
  exact ⟨gt ts, b, h2, h3, fun i hi => h4 _ (gt_mem (by omega)), h5⟩
theorem mul_lt_pow {a b : Int} {A B : Nat} (h0 : 0 ≤ a) (h1 : a < 2 ^ A) (h2 : 0 ≤ b) (h3 : b < 2 ^ B) : a * b < 2 ^ (A + B) := by
  have p : (0 : Int) < 2 ^ B := Int.pow_pos (by decide)
  rw [Int.pow_add]
  by_cases z : a = 0
  · subst z
    rw [Int.zero_mul]
    exact Int.mul_pos (Int.pow_pos (by decide)) p
  · calc a * b < a * 2 ^ B := Int.mul_lt_mul_of_pos_left h3 (by omega)
      _ ≤ 2 ^ A * 2 ^ B := Int.mul_le_mul_of_nonneg_right (by omega) (by omega)
theorem mul_pos1 {a b : Int} (ha : 1 ≤ a) (hb : 1 ≤ b) : 1 ≤ a * b := Int.mul_pos (by omega) (by omega)
theorem FB.two {A B n : Nat} {p q r : Nat → Rat} (hp : FB A n p) (hq : FB B n q) (h : ∀ (x y : Int) (b c : Int), 1 ≤ b → 1 ≤ c → ∀ i < n, p i = (x : Rat) / b → q i = (y : Rat) / c → 0 ≤ x → 0 ≤ y → ∃ z : Int, 0 ≤ z ∧ z ≤ x * c + y * b ∧ r i = (z : Rat) / ((b * c : Int) : Rat)) : FB (A + B + 1) n r := by
  obtain ⟨f, b, b1, b2, f1, f2⟩ := hp.get
  obtain ⟨g, c, c1, c2, g1, g2⟩ := hq.get
  have bc := mul_pos1 b1 c1
  have key : ∀ i : Nat, ∃ z : Int, i < n → 0 ≤ z ∧ z < 2 ^ (A + B + 1) ∧ r i = (z : Rat) / ((b * c : Int) : Rat) := fun i => by
    by_cases hi : i < n
    · obtain ⟨z, z0, z1, z2⟩ := h (f i) (g i) b c b1 c1 i hi (f2 i hi) (g2 i hi) (f1 i hi).1 (g1 i hi).1
      have m1 := mul_lt_pow (f1 i hi).1 (f1 i hi).2 (by omega : 0 ≤ c) c2
      have m2 := mul_lt_pow (g1 i hi).1 (g1 i hi).2 (by omega : 0 ≤ b) b2
      rw [Nat.add_comm B A] at m2
      have : (2 : Int) ^ (A + B + 1) = 2 ^ (A + B) * 2 := Int.pow_succ ..
      exact ⟨z, fun _ => ⟨z0, by omega, z2⟩⟩
    · exact ⟨0, fun h => absurd h hi⟩
  have m3 := mul_lt_pow (by omega : 0 ≤ b) b2 (by omega : 0 ≤ c) c2
  have : (2 : Int) ^ (A + B + 1) = 2 ^ (A + B) * 2 := Int.pow_succ ..
  have pp : (0 : Int) < 2 ^ (A + B) := Int.pow_pos (by decide)
  exact FB.mk' (fun i => Classical.choose (key i)) (b * c) bc (by omega) (fun i hi => ⟨(Classical.choose_spec (key i) hi).1, (Classical.choose_spec (key i) hi).2.1⟩) fun i hi => (Classical.choose_spec (key i) hi).2.2
theorem frac_add {x y b c : Int} (hb : 1 ≤ b) (hc : 1 ≤ c) : (x : Rat) / b + (y : Rat) / c = ((x * c + y * b : Int) : Rat) / ((b * c : Int) : Rat) := by
  have nb := cast_pos hb
  have nc := cast_pos hc
  rw [Rat.intCast_add, Rat.intCast_mul, Rat.intCast_mul, Rat.intCast_mul]
  grind
theorem frac_sub {x y b c : Int} (hb : 1 ≤ b) (hc : 1 ≤ c) : (x : Rat) / b - (y : Rat) / c = ((x * c - y * b : Int) : Rat) / ((b * c : Int) : Rat) := by
  have nb := cast_pos hb
  have nc := cast_pos hc
  rw [Rat.intCast_sub, Rat.intCast_mul, Rat.intCast_mul, Rat.intCast_mul]
  grind
theorem frac_l {x b c : Int} (hb : 1 ≤ b) (hc : 1 ≤ c) : (x : Rat) / b = ((x * c : Int) : Rat) / ((b * c : Int) : Rat) := by
  refine (rat_eq hb (mul_pos1 hb hc)).mpr ?_
  rw [Int.mul_assoc, Int.mul_comm c b]
theorem frac_r {y b c : Int} (hb : 1 ≤ b) (hc : 1 ≤ c) : (y : Rat) / c = ((y * b : Int) : Rat) / ((b * c : Int) : Rat) := by
  refine (rat_eq hc (mul_pos1 hb hc)).mpr ?_
  rw [Int.mul_assoc]
theorem FB.add {A B n : Nat} {p q : Nat → Rat} (hp : FB A n p) (hq : FB B n q) : FB (A + B + 1) n (fun i => p i + q i) :=
  hp.two hq fun x y b c hb hc i hi e1 e2 x0 y0 => ⟨x * c + y * b, by
    have := Int.mul_nonneg x0 (by omega : 0 ≤ c)
    have := Int.mul_nonneg y0 (by omega : 0 ≤ b)
    omega, Int.le_refl _, by rw [e1, e2]; exact frac_add hb hc⟩
theorem FB.sub {A B n : Nat} {p q : Nat → Rat} (hp : FB A n p) (hq : FB B n q) (h : ∀ i < n, q i ≤ p i) : FB (A + B + 1) n (fun i => p i - q i) :=
  hp.two hq fun x y b c hb hc i hi e1 e2 x0 y0 => ⟨x * c - y * b, by
    have := h i hi
    rw [e1, e2] at this
    have := (rat_le hc hb).mp this
    omega, by
    have := Int.mul_nonneg y0 (by omega : 0 ≤ b)
    omega, by rw [e1, e2]; exact frac_sub hb hc⟩
theorem FB.pick {A B n : Nat} {p q r : Nat → Rat} (hp : FB A n p) (hq : FB B n q) (h : ∀ i < n, r i = p i ∨ r i = q i) : FB (A + B + 1) n r :=
  hp.two hq fun x y b c hb hc i hi e1 e2 x0 y0 => by
    have h1 := Int.mul_nonneg x0 (by omega : 0 ≤ c)
    have h2 := Int.mul_nonneg y0 (by omega : 0 ≤ b)
    rcases h i hi with e | e
    · exact ⟨x * c, h1, by omega, by rw [e, e1]; exact frac_l hb hc⟩
    · exact ⟨y * b, h2, by omega, by rw [e, e2]; exact frac_r hb hc⟩
/-- a web of small numbers -/
structure Web (n : Nat) (R : List (List Int)) (m : Int) : Prop where
  n1 : 1 ≤ n
  nk : n ≤ 60
  len : R.length = n
  row : ∀ r ∈ R, r.length = n ∧ ∀ x ∈ r, 0 ≤ x ∧ x < 2 ^ 8
  m1 : 1 ≤ m
  m2 : m < 2 ^ 8
def at2 (R : List (List Int)) (i j : Nat) : Int := gt (R.getD i []) j
theorem Web.at {n : Nat} {R : List (List Int)} {m : Int} (h : Web n R m) {i j : Nat} (hi : i < n) (hj : j < n) : 0 ≤ at2 R i j ∧ at2 R i j < 2 ^ 8 := by
  have hl : i < R.length := by rw [h.len]; exact hi
  unfold at2
  rw [List.getD, List.getElem?_eq_getElem hl]
  obtain ⟨h1, h2⟩ := h.row _ (List.getElem_mem hl)
  exact h2 _ (gt_mem (by show j < R[i].length; rw [h1]; exact hj))
/-- what comes by one step -/
def stp (n : Nat) (R : List (List Int)) (m : Int) (q : Nat → Rat) (j : Nat) : Rat := sm n fun i => q i * ((at2 R i j : Rat) / (m : Rat))
section
variable {n : Nat} {R : List (List Int)} {m : Int}
theorem Web.r_nonneg (h : Web n R m) {i j : Nat} (hi : i < n) (hj : j < n) : 0 ≤ (at2 R i j : Rat) / (m : Rat) := by
  have e : (0 : Rat) = ((0 : Int) : Rat) / ((1 : Int) : Rat) := by rw [Rat.intCast_zero, Rat.intCast_one]; grind
  rw [e]
  refine (rat_le (by decide) h.m1).mpr ?_
  have := (h.at hi hj).1
  omega
theorem stp_congr {p q : Nat → Rat} (h : ∀ i < n, p i = q i) (j : Nat) : stp n R m p j = stp n R m q j := sm_congr fun i hi => by rw [h i hi]
theorem stp_add (p q : Nat → Rat) (j : Nat) : stp n R m (fun i => p i + q i) j = stp n R m p j + stp n R m q j := by
  unfold stp
  rw [← sm_add]
  exact sm_congr fun i _ => by grind
theorem stp_sub (p q : Nat → Rat) (j : Nat) : stp n R m (fun i => p i - q i) j = stp n R m p j - stp n R m q j := by
  unfold stp
  rw [← sm_sub]
  exact sm_congr fun i _ => by grind
theorem stp_zero (j : Nat) : stp n R m (fun _ => 0) j = 0 := by
  unfold stp
  rw [sm_congr (g := fun _ => 0) fun i _ => Rat.zero_mul _, sm_zero]
theorem stp_le (w : Web n R m) {p q : Nat → Rat} (h : ∀ i < n, p i ≤ q i) {j : Nat} (hj : j < n) : stp n R m p j ≤ stp n R m q j :=
  sm_le fun i hi => Rat.mul_le_mul_of_nonneg_right (h i hi) (w.r_nonneg hi hj)
theorem stp_nonneg (w : Web n R m) {p : Nat → Rat} (h : ∀ i < n, 0 ≤ p i) {j : Nat} (hj : j < n) : 0 ≤ stp n R m p j := by
  have := stp_le w (p := fun _ => 0) (q := p) h hj
  rwa [stp_zero] at this
/-- a step of whole numbers over a bottom -/
theorem stp_int (w : Web n R m) (f : Nat → Int) (b : Int) (hb : 1 ≤ b) (q : Nat → Rat) (h : ∀ i < n, q i = (f i : Rat) / (b : Rat)) (j : Nat) : stp n R m q j = ((sI n fun i => f i * at2 R i j : Int) : Rat) / ((b * m : Int) : Rat) := by
  have nb := cast_pos hb
  have nm := cast_pos w.m1
  unfold stp
  rw [sI_cast, Rat.intCast_mul]
  have : sm n (fun i => q i * ((at2 R i j : Rat) / (m : Rat))) = sm n fun i => (1 / ((b : Rat) * m)) * ((f i * at2 R i j : Int) : Rat) := sm_congr fun i hi => by
    rw [h i hi, Rat.intCast_mul]
    grind
  rw [this, sm_mul]
  grind
theorem FB.stp {B : Nat} {q : Nat → Rat} (w : Web n R m) (h : FB B n q) : FB (B + 16) n (stp n R m q) := by
  obtain ⟨f, b, b1, b2, f1, f2⟩ := h.get
  have pB : (0 : Int) < 2 ^ B := Int.pow_pos (by decide)
  have p16 : (2 : Int) ^ (B + 16) = 2 ^ B * 65536 := by rw [Int.pow_add]; rfl
  have w1 := w.m1
  have w2 := w.m2
  refine FB.mk' (fun j => sI n fun i => f i * at2 R i j) (b * m) (mul_pos1 b1 w1) ?_ (fun j hj => ?_) fun j _ => stp_int w f b b1 q f2 j
  · have := mul_lt_pow (by omega : 0 ≤ b) b2 (by omega : 0 ≤ m) w2
    have := pow_le (A := B + 8) (B := B + 16) (by omega)
    omega
  · obtain ⟨s0, s1⟩ := sI_bound n (fun i => f i * at2 R i j) (2 ^ (B + 8)) fun i hi => by
      obtain ⟨a0, a1⟩ := w.at hi hj
      refine ⟨Int.mul_nonneg (f1 i hi).1 a0, ?_⟩
      have := mul_lt_pow (f1 i hi).1 (f1 i hi).2 a0 a1
      omega
    refine ⟨s0, ?_⟩
    have p8 : (2 : Int) ^ (B + 8) = 2 ^ B * 256 := by rw [Int.pow_add]; rfl
    have nk := w.nk
    have : (n : Int) * 2 ^ (B + 8) ≤ 60 * 2 ^ (B + 8) := Int.mul_le_mul_of_nonneg_right (by omega) (by omega)
    omega
end
end My
set_option Elab.async false
set_option linter.all false
set_option maxRecDepth 100000
set_option maxHeartbeats 4000000
set_option exponentiation.threshold 20000
namespace My
/-! ### the walk, by fractions -/
def mx (a b : Int) : Int := if b > a then b else a
def mn (a b : Int) : Int := if b < a then b else a
def mxR (a b : Rat) : Rat := if b > a then b else a
def mnR (a b : Rat) : Rat := if b < a then b else a
/-- what stands, what is gone, what is kept, moment by moment, up to T -/
structure Walk (n : Nat) (R : List (List Int)) (m : Int) (v L : Nat → Rat) (stay : Bool) (T : Nat) (S G K Wt : Nat → Nat → Rat) : Prop where
  s0 : ∀ i < n, S 0 i = v i
  g0 : ∀ i < n, G 0 i = 0
  k0 : ∀ i < n, K 0 i = 0
  w0 : ∀ k < T, ∀ i < n, 0 ≤ Wt k i ∧ Wt k i ≤ S k i
  go : ∀ k < T, ∀ i < n, G (k + 1) i = G k i + (if stay then mxR (Wt k i) (S k i + K k i - L i) else mnR (Wt k i) (L i - G k i))
  ke : ∀ k < T, ∀ i < n, K (k + 1) i = K k i + S k i - (G (k + 1) i - G k i)
  st : ∀ k < T, ∀ j < n, S (k + 1) j = stp n R m (fun i => G (k + 1) i - G k i) j
section
variable {n : Nat} {R : List (List Int)} {m : Int} {v L : Nat → Rat} {stay : Bool} {T : Nat} {S G K Wt : Nat → Nat → Rat}
structure Inv (n : Nat) (R : List (List Int)) (m : Int) (v L : Nat → Rat) (stay : Bool) (S G K : Nat → Rat) : Prop where
  s : ∀ i < n, 0 ≤ S i
  g : ∀ i < n, 0 ≤ G i
  k : ∀ i < n, 0 ≤ K i
  e : ∀ i < n, S i + K i + G i = v i + stp n R m G i
  l : ∀ i < n, (if stay then K i else G i) ≤ L i
theorem Walk.inv (W : Walk n R m v L stay T S G K Wt) (w : Web n R m) (hv : ∀ i < n, 0 ≤ v i) (hL : ∀ i < n, 0 ≤ L i) : ∀ k ≤ T, Inv n R m v L stay (S k) (G k) (K k)
  | 0, _ => by
    have z : ∀ j, stp n R m (G 0) j = 0 := fun j => by rw [stp_congr (q := fun _ => 0) (fun i hi => W.g0 i hi), stp_zero]
    refine ⟨fun i hi => ?_, fun i hi => ?_, fun i hi => ?_, fun i hi => ?_, fun i hi => ?_⟩
    · rw [W.s0 i hi]; exact hv i hi
    · rw [W.g0 i hi]; exact Rat.le_refl
    · rw [W.k0 i hi]; exact Rat.le_refl
    · rw [W.s0 i hi, W.g0 i hi, W.k0 i hi, z]; grind
    · have := hL i hi
      cases stay
      · rw [W.g0 i hi]; exact this
      · rw [W.k0 i hi]; exact this
  | k + 1, hk => by
    obtain ⟨a, b, c, e, l⟩ := W.inv w hv hL k (by omega)
    have gg : ∀ i < n, 0 ≤ G (k + 1) i - G k i ∧ G (k + 1) i - G k i ≤ S k i ∧ (if stay then K (k + 1) i else G (k + 1) i) ≤ L i := fun i hi => by
      have h1 := W.go k (by omega) i hi
      have h2 := W.w0 k (by omega) i hi
      have h3 := l i hi
      have h4 := W.ke k (by omega) i hi
      have := c i hi
      have := b i hi
      unfold mxR mnR at h1
      cases stay
      · simp only [Bool.false_eq_true, if_false] at h1 h3 ⊢
        split at h1 <;> grind
      · simp only [if_true] at h1 h3 ⊢
        split at h1 <;> grind
    refine ⟨fun i hi => ?_, fun i hi => ?_, fun i hi => ?_, fun i hi => ?_, fun i hi => (gg i hi).2.2⟩
    · rw [W.st k (by omega) i hi]
      exact stp_nonneg w (fun i hi => (gg i hi).1) hi
    · have := (gg i hi).1
      have := b i hi
      grind
    · rw [W.ke k (by omega) i hi]
      have := (gg i hi).2.1
      have := c i hi
      grind
    · rw [W.st k (by omega) i hi, W.ke k (by omega) i hi, stp_sub]
      have := e i hi
      grind
theorem Walk.goes (W : Walk n R m v L stay T S G K Wt) (w : Web n R m) (hv : ∀ i < n, 0 ≤ v i) (hL : ∀ i < n, 0 ≤ L i) {k : Nat} (hk : k < T) {i : Nat} (hi : i < n) : G k i ≤ G (k + 1) i ∧ G (k + 1) i - G k i ≤ S k i := by
  obtain ⟨a, b, c, e, l⟩ := W.inv w hv hL k (by omega)
  have h1 := W.go k (by omega) i hi
  have h2 := W.w0 k (by omega) i hi
  have h3 := l i hi
  have := c i hi
  have := b i hi
  unfold mxR mnR at h1
  cases stay
  · simp only [Bool.false_eq_true, if_false] at h1 h3
    split at h1 <;> grind
  · simp only [if_true] at h1 h3
    split at h1 <;> grind
/-- kept so far is what has come less what is gone next -/
theorem Walk.kept (W : Walk n R m v L stay T S G K Wt) (w : Web n R m) (hv : ∀ i < n, 0 ≤ v i) (hL : ∀ i < n, 0 ≤ L i) {k : Nat} (hk : k < T) {i : Nat} (hi : i < n) : K (k + 1) i = v i + stp n R m (G k) i - G (k + 1) i := by
  have := (W.inv w hv hL k (by omega)).e i hi
  have := W.ke k hk i hi
  grind
/-! stay-first without wants: it is the course by what comes -/
theorem Walk.stay1 (W : Walk n R m v L true T S G K Wt) (w : Web n R m) (hv : ∀ i < n, 0 ≤ v i) (hL : ∀ i < n, 0 ≤ L i) (hw : ∀ k < T, ∀ i < n, Wt k i = 0) : ∀ k ≤ T, ∀ i < n, 0 < G k i → K k i = L i
  | 0, _, i, hi, h => by rw [W.g0 i hi] at h; grind
  | k + 1, hk, i, hi, h => by
    have ih := W.stay1 w hv hL hw k (by omega) i hi
    obtain ⟨a, b, c, e, l⟩ := W.inv w hv hL k (by omega)
    have h1 := W.go k (by omega) i hi
    have h4 := W.ke k (by omega) i hi
    have h5 := hw k (by omega) i hi
    have := a i hi
    have := b i hi
    have := c i hi
    have := l i hi
    simp only [if_true] at *
    unfold mxR at h1
    split at h1 <;> grind
theorem Walk.stay_eq (W : Walk n R m v L true T S G K Wt) (w : Web n R m) (hv : ∀ i < n, 0 ≤ v i) (hL : ∀ i < n, 0 ≤ L i) (hw : ∀ k < T, ∀ i < n, Wt k i = 0) {k : Nat} (hk : k < T) {i : Nat} (hi : i < n) :
    G (k + 1) i = mxR (v i + stp n R m (G k) i) (L i) - L i := by
  have s1 := W.stay1 w hv hL hw k (by omega) i hi
  obtain ⟨a, b, c, e, l⟩ := W.inv w hv hL k (by omega)
  have h1 := W.go k (by omega) i hi
  have h5 := hw k (by omega) i hi
  have := a i hi
  have := b i hi
  have := c i hi
  have := l i hi
  have := e i hi
  simp only [if_true] at *
  unfold mxR at *
  split at h1 <;> split <;> grind
theorem Walk.go1 (W : Walk n R m v L false T S G K Wt) (w : Web n R m) (hv : ∀ i < n, 0 ≤ v i) (hL : ∀ i < n, 0 ≤ L i) (hw : ∀ k < T, ∀ i < n, Wt k i = S k i) : ∀ k ≤ T, ∀ i < n, 0 < K k i → G k i = L i
  | 0, _, i, hi, h => by rw [W.k0 i hi] at h; grind
  | k + 1, hk, i, hi, h => by
    have ih := W.go1 w hv hL hw k (by omega) i hi
    obtain ⟨a, b, c, e, l⟩ := W.inv w hv hL k (by omega)
    have h1 := W.go k (by omega) i hi
    have h4 := W.ke k (by omega) i hi
    have h5 := hw k (by omega) i hi
    have := a i hi
    have := b i hi
    have := c i hi
    have := l i hi
    simp only [Bool.false_eq_true, if_false] at *
    unfold mnR at h1
    split at h1 <;> grind
theorem Walk.go_eq (W : Walk n R m v L false T S G K Wt) (w : Web n R m) (hv : ∀ i < n, 0 ≤ v i) (hL : ∀ i < n, 0 ≤ L i) (hw : ∀ k < T, ∀ i < n, Wt k i = S k i) {k : Nat} (hk : k < T) {i : Nat} (hi : i < n) :
    G (k + 1) i = mnR (L i) (v i + stp n R m (G k) i) := by
  have s1 := W.go1 w hv hL hw k (by omega) i hi
  obtain ⟨a, b, c, e, l⟩ := W.inv w hv hL k (by omega)
  have h1 := W.go k (by omega) i hi
  have h5 := hw k (by omega) i hi
  have := a i hi
  have := b i hi
  have := c i hi
  have := l i hi
  have := e i hi
  simp only [Bool.false_eq_true, if_false] at *
  unfold mnR at *
  split at h1 <;> split <;> grind
/-- stay-first passes least -/
theorem stay_least {T' : Nat} {S' G' K' Wt' : Nat → Nat → Rat} (W : Walk n R m v L true T S G K Wt) (W' : Walk n R m v L true T' S' G' K' Wt') (w : Web n R m) (hv : ∀ i < n, 0 ≤ v i) (hL : ∀ i < n, 0 ≤ L i) (hw : ∀ k < T, ∀ i < n, Wt k i = 0) :
    ∀ k, k ≤ T → k ≤ T' → ∀ i < n, G k i ≤ G' k i
  | 0, _, _, i, hi => by rw [W.g0 i hi, W'.g0 i hi]; exact Rat.le_refl
  | k + 1, h1, h2, i, hi => by
    have ih := stay_least W W' w hv hL hw k (by omega) (by omega)
    have e1 := W.stay_eq w hv hL hw (by omega : k < T) hi
    have mo := stp_le w ih hi
    have i1 := (W'.inv w hv hL (k + 1) (by omega)).g i hi
    have i2 := (W'.inv w hv hL (k + 1) (by omega)).l i hi
    have i3 := W'.kept w hv hL (by omega : k < T') hi
    simp only [if_true] at *
    rw [e1]
    unfold mxR
    split <;> grind
theorem go_most {T' : Nat} {S' G' K' Wt' : Nat → Nat → Rat} (W : Walk n R m v L false T S G K Wt) (W' : Walk n R m v L false T' S' G' K' Wt') (w : Web n R m) (hv : ∀ i < n, 0 ≤ v i) (hL : ∀ i < n, 0 ≤ L i) (hw : ∀ k < T, ∀ i < n, Wt k i = S k i) :
    ∀ k, k ≤ T → k ≤ T' → ∀ i < n, G' k i ≤ G k i
  | 0, _, _, i, hi => by rw [W.g0 i hi, W'.g0 i hi]; exact Rat.le_refl
  | k + 1, h1, h2, i, hi => by
    have ih := go_most W W' w hv hL hw k (by omega) (by omega)
    have e1 := W.go_eq w hv hL hw (by omega : k < T) hi
    have mo := stp_le w ih hi
    have i1 := (W'.inv w hv hL (k + 1) (by omega)).k i hi
    have i2 := (W'.inv w hv hL (k + 1) (by omega)).l i hi
    have i3 := W'.kept w hv hL (by omega : k < T') hi
    simp only [Bool.false_eq_true, if_false] at *
    rw [e1]
    unfold mnR
    split <;> grind
end
end My
set_option Elab.async false
set_option linter.all false
set_option maxRecDepth 100000
set_option maxHeartbeats 4000000
set_option exponentiation.threshold 20000
namespace My
/-! ### courses -/
def stands (n : Nat) (R : List (List Int)) (m : Int) (v : Nat → Rat) (c : Nat → Nat → Rat) : Nat → Nat → Rat
  | 0 => v
  | k + 1 => stp n R m (fun i => c (k + 1) i - c k i)
structure Course (n : Nat) (R : List (List Int)) (m : Int) (v : Nat → Rat) (c : Nat → Nat → Rat) (T : Nat) : Prop where
  z : ∀ i < n, c 0 i = 0
  up : ∀ k < T, ∀ i < n, c k i ≤ c (k + 1) i
  st : ∀ k < T, ∀ i < n, c (k + 1) i - c k i ≤ stands n R m v c k i
/-- what has stayed of all that came -/
def stayed (n : Nat) (R : List (List Int)) (m : Int) (v : Nat → Rat) (c : Nat → Nat → Rat) : Nat → Nat → Rat
  | 0 => fun _ => 0
  | k + 1 => fun j => v j + stp n R m (c k) j - c (k + 1) j
structure Fits (n : Nat) (R : List (List Int)) (m : Int) (v : Nat → Rat) (c : Nat → Nat → Rat) (T : Nat) : Prop where
  z : ∀ i < n, c 0 i ≤ 0
  up : ∀ k < T, ∀ i < n, c k i ≤ c (k + 1) i
  st : ∀ k < T, ∀ i < n, stayed n R m v c k i ≤ stayed n R m v c (k + 1) i
theorem course_fits {n : Nat} {R : List (List Int)} {m : Int} {v : Nat → Rat} {c : Nat → Nat → Rat} {T : Nat} (h0 : ∀ k ≤ T, ∀ i < n, 0 ≤ c k i) : Course n R m v c T ↔ Fits n R m v c T := by
  have key : (∀ i < n, c 0 i = 0) → ∀ k < T, ∀ i < n, (c (k + 1) i - c k i ≤ stands n R m v c k i ↔ stayed n R m v c k i ≤ stayed n R m v c (k + 1) i) := by
    intro z k hk i hi
    cases k with
    | zero =>
      have e : stp n R m (c 0) i = 0 := by rw [stp_congr (q := fun _ => 0) z, stp_zero]
      have := z i hi
      simp only [stands, stayed]
      constructor <;> intro <;> grind
    | succ k =>
      simp only [stands, stayed]
      rw [stp_sub]
      constructor <;> intro <;> grind
  constructor
  · intro h
    exact ⟨fun i hi => by rw [h.z i hi]; exact Rat.le_refl, h.up, fun k hk i hi => (key h.z k hk i hi).mp (h.st k hk i hi)⟩
  · intro h
    have z : ∀ i < n, c 0 i = 0 := fun i hi => Rat.le_antisymm (h.z i hi) (h0 0 (by omega) i hi)
    exact ⟨z, h.up, fun k hk i hi => (key z k hk i hi).mpr (h.st k hk i hi)⟩
section
variable {n : Nat} {R : List (List Int)} {m : Int} {v L : Nat → Rat} {stay : Bool} {T : Nat} {S G K Wt : Nat → Nat → Rat}
theorem Walk.stands_eq (W : Walk n R m v L stay T S G K Wt) : ∀ k < T + 1, ∀ i < n, stands n R m v G k i = S k i
  | 0, _, i, hi => (W.s0 i hi).symm
  | k + 1, hk, i, hi => (W.st k (by omega) i hi).symm
theorem Walk.course (W : Walk n R m v L stay T S G K Wt) (w : Web n R m) (hv : ∀ i < n, 0 ≤ v i) (hL : ∀ i < n, 0 ≤ L i) : Course n R m v G T where
  z := W.g0
  up := fun k hk i hi => (W.goes w hv hL hk hi).1
  st := fun k hk i hi => by
    rw [W.stands_eq k (by omega) i hi]
    exact (W.goes w hv hL hk hi).2
end
/-! ### the law's own walk, in whole numbers -/
structure St where
  s : List Int
  g : List Int
  k : List Int
  c : Int
def up (f : Int) (x : St) : St := ⟨x.s.map (f * ·), x.g.map (f * ·), x.k.map (f * ·), x.c * f⟩
def goesOf (n : Nat) (lim : List Int) (stay : Bool) (w : List Int) (x : St) : List Int :=
  (List.range n).map fun i => if stay then mx (gt w i) (gt x.s i + gt x.k i - gt lim i * x.c) else mn (gt w i) (gt lim i * x.c - gt x.g i)
def next (n : Nat) (R : List (List Int)) (m : Int) (lim : List Int) (stay : Bool) (w : List Int) (x : St) : St :=
  ⟨(List.range n).map fun j => sI n fun i => gt (goesOf n lim stay w x) i * at2 R i j,
   (List.range n).map fun i => (gt x.g i + gt (goesOf n lim stay w x) i) * m,
   (List.range n).map fun i => (gt x.k i + gt x.s i - gt (goesOf n lim stay w x) i) * m,
   x.c * m⟩
def wantsOf (n : Nat) (sh : List (List Int)) (stay : Bool) (k : Nat) (x : St) : List Int :=
  if 0 < sh.length then (List.range n).map fun i => gt x.s i * at2 sh k i / 4 else if stay then List.replicate n 0 else x.s
def fourOf (sh : List (List Int)) : Int := 1 + 3 * (if 0 < sh.length then 1 else 0)
def raw (n : Nat) (R : List (List Int)) (m : Int) (be lim : List Int) (stay : Bool) (sh : List (List Int)) : Nat → St
  | 0 => ⟨be, List.replicate n 0, List.replicate n 0, 1⟩
  | k + 1 => let x := up (fourOf sh) (raw n R m be lim stay sh k); next n R m lim stay (wantsOf n sh stay k x) x
structure Raw (n : Nat) (B C : Nat) (lim : List Int) (stay : Bool) (x : St) : Prop where
  ls : x.s.length = n
  lg : x.g.length = n
  lk : x.k.length = n
  c1 : 1 ≤ x.c
  c2 : x.c < 2 ^ C
  s : ∀ i < n, 0 ≤ gt x.s i ∧ gt x.s i < 2 ^ B
  g : ∀ i < n, 0 ≤ gt x.g i ∧ gt x.g i < 2 ^ B
  k : ∀ i < n, 0 ≤ gt x.k i ∧ gt x.k i < 2 ^ B
  l : ∀ i < n, (if stay then gt x.k i else gt x.g i) ≤ gt lim i * x.c
theorem gt_rep (n : Nat) (i : Nat) : gt (List.replicate n 0) i = 0 := by
  by_cases h : i < n
  · rw [gt_get (by simpa using h)]; simp
  · exact gt_out (by simp; omega)
theorem four_b (sh : List (List Int)) : 1 ≤ fourOf sh ∧ fourOf sh ≤ 4 := by unfold fourOf; split <;> omega
theorem Raw.up {n B C : Nat} {lim : List Int} {stay : Bool} {x : St} (h : Raw n B C lim stay x) {f : Int} (f1 : 1 ≤ f) (f4 : f ≤ 4) : Raw n (B + 2) (C + 2) lim stay (up f x) := by
  have key : ∀ y : Int, 0 ≤ y ∧ y < 2 ^ B → 0 ≤ f * y ∧ f * y < 2 ^ (B + 2) := fun y hy => by
    have p : (2 : Int) ^ (B + 2) = 2 ^ B * 4 := by rw [Int.pow_add]; rfl
    refine ⟨Int.mul_nonneg (by omega) hy.1, ?_⟩
    have := Int.mul_le_mul_of_nonneg_right f4 hy.1
    omega
  refine ⟨by simp [My.up, h.ls], by simp [My.up, h.lg], by simp [My.up, h.lk], mul_pos1 h.c1 f1, ?_, fun i hi => ?_, fun i hi => ?_, fun i hi => ?_, fun i hi => ?_⟩
  · have p : (2 : Int) ^ (C + 2) = 2 ^ C * 4 := by rw [Int.pow_add]; rfl
    have := Int.mul_le_mul_of_nonneg_left f4 (by have := h.c1; omega : 0 ≤ x.c)
    have := h.c2
    show x.c * f < _
    omega
  · rw [My.up, gt_map (by rw [h.ls]; exact hi)]; exact key _ (h.s i hi)
  · rw [My.up, gt_map (by rw [h.lg]; exact hi)]; exact key _ (h.g i hi)
  · rw [My.up, gt_map (by rw [h.lk]; exact hi)]; exact key _ (h.k i hi)
  · have l := h.l i hi
    have := Int.mul_le_mul_of_nonneg_left l (by omega : 0 ≤ f)
    have e : f * (gt lim i * x.c) = gt lim i * (x.c * f) := by rw [Int.mul_comm f, Int.mul_assoc]
    cases stay
    · simp only [Bool.false_eq_true, if_false] at *
      rw [My.up, gt_map (by rw [h.lg]; exact hi)]
      show f * gt x.g i ≤ gt lim i * (x.c * f)
      omega
    · simp only [if_true] at *
      rw [My.up, gt_map (by rw [h.lk]; exact hi)]
      show f * gt x.k i ≤ gt lim i * (x.c * f)
      omega
structure WantsOk (n : Nat) (w : List Int) (x : St) : Prop where
  len : w.length = n
  ok : ∀ i < n, 0 ≤ gt w i ∧ gt w i ≤ gt x.s i
theorem goes_b {n B C : Nat} {lim : List Int} {stay : Bool} {x : St} (h : Raw n B C lim stay x) {w : List Int} (hw : WantsOk n w x) : ∀ i < n, 0 ≤ gt (goesOf n lim stay w x) i ∧ gt (goesOf n lim stay w x) i ≤ gt x.s i ∧ (stay = true → gt x.k i + gt x.s i - gt (goesOf n lim stay w x) i ≤ gt lim i * x.c) ∧ (stay = false → gt x.g i + gt (goesOf n lim stay w x) i ≤ gt lim i * x.c) := by
  intro i hi
  unfold goesOf
  rw [gt_range hi]
  have := hw.ok i hi
  have := h.l i hi
  have := h.k i hi
  have := h.g i hi
  generalize gt lim i * x.c = z at *
  cases stay
  · rw [if_neg Bool.false_ne_true] at *
    unfold mn
    split <;> refine ⟨by omega, by omega, (fun h => by cases h), (fun _ => by omega)⟩
  · rw [if_pos rfl] at *
    unfold mx
    split <;> refine ⟨by omega, by omega, (fun _ => by omega), (fun h => by cases h)⟩
theorem Raw.next {n B C : Nat} {R : List (List Int)} {m : Int} {lim : List Int} {stay : Bool} {x : St} (h : Raw n B C lim stay x) (w : Web n R m) {wt : List Int} (hw : WantsOk n wt x) : Raw n (B + 16) (C + 8) lim stay (next n R m lim stay wt x) := by
  have gb := goes_b h hw
  have pB : (0 : Int) < 2 ^ B := Int.pow_pos (by decide)
  have p16 : (2 : Int) ^ (B + 16) = 2 ^ B * 65536 := by rw [Int.pow_add]; rfl
  have w1 := w.m1
  have w2 := w.m2
  refine ⟨by simp [My.next], by simp [My.next], by simp [My.next], mul_pos1 h.c1 w1, ?_, fun j hj => ?_, fun i hi => ?_, fun i hi => ?_, fun i hi => ?_⟩
  · exact mul_lt_pow (by have := h.c1; omega) h.c2 (by omega) w2
  · simp only [My.next]
    rw [gt_range hj]
    obtain ⟨s0, s1⟩ := sI_bound n (fun i => gt (goesOf n lim stay wt x) i * at2 R i j) (2 ^ (B + 8)) fun i hi => by
      obtain ⟨a0, a1⟩ := w.at hi hj
      obtain ⟨g0, g1, _⟩ := gb i hi
      refine ⟨Int.mul_nonneg g0 a0, ?_⟩
      have := mul_lt_pow g0 (by have := (h.s i hi).2; omega : _ < (2 : Int) ^ B) a0 a1
      omega
    refine ⟨s0, ?_⟩
    have p8 : (2 : Int) ^ (B + 8) = 2 ^ B * 256 := by rw [Int.pow_add]; rfl
    have nk := w.nk
    have : (n : Int) * 2 ^ (B + 8) ≤ 60 * 2 ^ (B + 8) := Int.mul_le_mul_of_nonneg_right (by omega) (by omega)
    omega
  · simp only [My.next]
    rw [gt_range hi]
    obtain ⟨g0, g1, _⟩ := gb i hi
    have a := h.g i hi
    have b := h.s i hi
    generalize gt (goesOf n lim stay wt x) i = z at *
    have p1 : (2 : Int) ^ (B + 1) = 2 ^ B * 2 := Int.pow_succ ..
    have := mul_lt_pow (a := gt x.g i + z) (A := B + 1) (by omega) (by omega) (by omega : 0 ≤ m) w2
    have := pow_le (A := B + 1 + 8) (B := B + 16) (by omega)
    exact ⟨Int.mul_nonneg (by omega) (by omega), by omega⟩
  · simp only [My.next]
    rw [gt_range hi]
    obtain ⟨g0, g1, _⟩ := gb i hi
    have a := h.k i hi
    have b := h.s i hi
    generalize gt (goesOf n lim stay wt x) i = z at *
    have p1 : (2 : Int) ^ (B + 1) = 2 ^ B * 2 := Int.pow_succ ..
    have := mul_lt_pow (a := gt x.k i + gt x.s i - z) (A := B + 1) (by omega) (by omega) (by omega : 0 ≤ m) w2
    have := pow_le (A := B + 1 + 8) (B := B + 16) (by omega)
    exact ⟨Int.mul_nonneg (by omega) (by omega), by omega⟩
  · obtain ⟨_, _, g2, g3⟩ := gb i hi
    simp only [My.next]
    rw [gt_range hi, gt_range hi, ← Int.mul_assoc]
    cases stay
    · simp only [Bool.false_eq_true, if_false] at *
      exact Int.mul_le_mul_of_nonneg_right (g3 trivial) (by omega)
    · simp only [if_true] at *
      exact Int.mul_le_mul_of_nonneg_right (g2 trivial) (by omega)
/-- shares: fourths from 0 to 4 -/
def SharesOk (n : Nat) (sh : List (List Int)) (T : Nat) : Prop := 0 < sh.length → T ≤ sh.length ∧ ∀ k < T, ∀ i < n, 0 ≤ at2 sh k i ∧ at2 sh k i ≤ 4
theorem wants_ok {n B C : Nat} {lim : List Int} {stay : Bool} {x : St} (h : Raw n B C lim stay x) {sh : List (List Int)} {T k : Nat} (hs : SharesOk n sh T) (hk : k < T) : WantsOk n (wantsOf n sh stay k x) x := by
  unfold wantsOf
  by_cases z : 0 < sh.length
  · rw [if_pos z]
    refine ⟨by simp, fun i hi => ?_⟩
    rw [gt_range hi]
    obtain ⟨a, b⟩ := (hs z).2 k hk i hi
    have := (h.s i hi).1
    have := Int.mul_nonneg this a
    have := Int.mul_le_mul_of_nonneg_left b (h.s i hi).1
    omega
  · rw [if_neg z]
    cases stay
    · exact ⟨h.ls, fun i hi => ⟨(h.s i hi).1, Int.le_refl _⟩⟩
    · refine ⟨by simp, fun i hi => ?_⟩
      rw [if_pos rfl, gt_rep]
      exact ⟨Int.le_refl _, (h.s i hi).1⟩
theorem raw_ok {n : Nat} {R : List (List Int)} {m : Int} {be lim : List Int} {stay : Bool} {sh : List (List Int)} {T b0 : Nat} (w : Web n R m) (hs : SharesOk n sh T) (hb : be.length = n ∧ ∀ i < n, 0 ≤ gt be i ∧ gt be i < 2 ^ b0) (hl : ∀ i < n, 0 ≤ gt lim i) :
    ∀ k ≤ T, Raw n (18 * k + b0) (10 * k + 1) lim stay (raw n R m be lim stay sh k)
  | 0, _ => by
    refine ⟨hb.1, by simp [raw], by simp [raw], Int.le_refl 1, (by show (1 : Int) < 2 ^ 1; decide), (by rw [Nat.mul_zero, Nat.zero_add]; exact hb.2), fun i hi => ?_, fun i hi => ?_, fun i hi => ?_⟩
    · simp only [raw]; rw [gt_rep]; exact ⟨Int.le_refl 0, Int.pow_pos (by decide)⟩
    · simp only [raw]; rw [gt_rep]; exact ⟨Int.le_refl 0, Int.pow_pos (by decide)⟩
    · have := hl i hi
      simp only [raw]
      rw [gt_rep]
      cases stay <;> simp <;> omega
  | k + 1, hk => by
    have ih := (raw_ok (stay := stay) w hs hb hl k (by omega)).up (four_b sh).1 (four_b sh).2
    have := ih.next w (wants_ok ih hs (by omega : k < T))
    have e1 : 18 * (k + 1) + b0 = 18 * k + b0 + 2 + 16 := by omega
    have e2 : 10 * (k + 1) + 1 = 10 * k + 1 + 2 + 8 := by omega
    rw [e1, e2]
    exact this
/-- the vector of such numbers over base and scale -/
def vw (b : Int) (xs : List Int) (i : Nat) : Rat := (gt xs i : Rat) / (b : Rat)
theorem mul_div {x c f b : Int} (hc : 1 ≤ c) (hf : 1 ≤ f) (hb : 1 ≤ b) (e : b = c * f) : ((f * x : Int) : Rat) / (b : Rat) = (x : Rat) / (c : Rat) := by
  refine (rat_eq hb hc).mpr ?_
  rw [e, Int.mul_comm f x, Int.mul_assoc, Int.mul_comm f c]
theorem div_mul' {x c f : Int} (hc : 1 ≤ c) (hf : 1 ≤ f) : ((x * f : Int) : Rat) / ((c * f : Int) : Rat) = (x : Rat) / (c : Rat) := by
  refine (rat_eq (mul_pos1 hc hf) hc).mpr ?_
  rw [Int.mul_assoc, Int.mul_comm f c]
theorem mxR_div {x y b : Int} (hb : 1 ≤ b) : mxR ((x : Rat) / b) ((y : Rat) / b) = ((mx x y : Int) : Rat) / b := by
  have h := rat_le (a := y) (b := b) (c := x) (d := b) hb hb
  have e : (y * b ≤ x * b) ↔ y ≤ x := by
    constructor
    · exact fun h => Int.le_of_mul_le_mul_right h (by omega)
    · exact fun h => Int.mul_le_mul_of_nonneg_right h (by omega)
  rw [e] at h
  unfold mxR mx
  by_cases z : y > x
  · rw [if_pos z, if_pos]
    grind
  · rw [if_neg z, if_neg]
    have := h.mpr (by omega)
    grind
theorem mnR_div {x y b : Int} (hb : 1 ≤ b) : mnR ((x : Rat) / b) ((y : Rat) / b) = ((mn x y : Int) : Rat) / b := by
  have h := rat_le (a := x) (b := b) (c := y) (d := b) hb hb
  have e : (x * b ≤ y * b) ↔ x ≤ y := by
    constructor
    · exact fun h => Int.le_of_mul_le_mul_right h (by omega)
    · exact fun h => Int.mul_le_mul_of_nonneg_right h (by omega)
  rw [e] at h
  unfold mnR mn
  by_cases z : y < x
  · rw [if_pos z, if_pos]
    grind
  · rw [if_neg z, if_neg]
    have := h.mpr (by omega)
    grind
/-- the law's own walk is such a walk -/
theorem raw_walk {n : Nat} {R : List (List Int)} {m : Int} {be lim : List Int} {stay : Bool} {sh : List (List Int)} {T b0 : Nat} {base : Int} (w : Web n R m) (hs : SharesOk n sh T) (hb : be.length = n ∧ ∀ i < n, 0 ≤ gt be i ∧ gt be i < 2 ^ b0) (hl : ∀ i < n, 0 ≤ gt lim i) (hB : 1 ≤ base) :
    Walk n R m (vw base be) (vw base lim) stay T (fun k => vw (base * (raw n R m be lim stay sh k).c) (raw n R m be lim stay sh k).s) (fun k => vw (base * (raw n R m be lim stay sh k).c) (raw n R m be lim stay sh k).g) (fun k => vw (base * (raw n R m be lim stay sh k).c) (raw n R m be lim stay sh k).k)
      (fun k => vw (base * (up (fourOf sh) (raw n R m be lim stay sh k)).c) (wantsOf n sh stay k (up (fourOf sh) (raw n R m be lim stay sh k)))) := by
  have f1 := (four_b sh).1
  have upv : ∀ (x : St) (xs : List Int) (i : Nat), 1 ≤ x.c → i < xs.length → vw (base * (up (fourOf sh) x).c) (xs.map (fourOf sh * ·)) i = vw (base * x.c) xs i := fun x xs i hc hi => by
    unfold vw
    rw [gt_map hi]
    exact mul_div (mul_pos1 hB hc) f1 (mul_pos1 hB (mul_pos1 hc f1)) (by show base * (x.c * fourOf sh) = _; rw [Int.mul_assoc])
  have main : ∀ k < T, ∀ i < n, vw (base * (raw n R m be lim stay sh (k + 1)).c) (raw n R m be lim stay sh (k + 1)).g i = vw (base * (raw n R m be lim stay sh k).c) (raw n R m be lim stay sh k).g i + ((gt (goesOf n lim stay (wantsOf n sh stay k (up (fourOf sh) (raw n R m be lim stay sh k))) (up (fourOf sh) (raw n R m be lim stay sh k))) i : Int) : Rat) / ((base * (up (fourOf sh) (raw n R m be lim stay sh k)).c : Int) : Rat) := by
    intro k hk i hi
    have rk := raw_ok (stay := stay) w hs hb hl k (by omega)
    have u := rk.up (four_b sh).1 (four_b sh).2
    rw [← upv _ _ i rk.c1 (by rw [rk.lg]; exact hi)]
    have eg : ∀ x : St, (up (fourOf sh) x).g = x.g.map (fourOf sh * ·) := fun _ => rfl
    rw [← eg]
    simp only [raw]
    generalize up (fourOf sh) (raw n R m be lim stay sh k) = x at *
    generalize hz : goesOf n lim stay (wantsOf n sh stay k x) x = z at *
    unfold vw
    simp only [next, hz]
    rw [gt_range hi, ← Int.mul_assoc, div_mul' (mul_pos1 hB u.c1) w.m1, Rat.intCast_add]
    have := cast_pos (mul_pos1 hB u.c1)
    show _ = (gt x.g i : Rat) / _ + _
    grind
  refine ⟨fun i hi => ?_, fun i hi => ?_, fun i hi => ?_, fun k hk i hi => ?_, fun k hk i hi => ?_, fun k hk i hi => ?_, fun k hk j hj => ?_⟩
  · simp only [raw, Int.mul_one]
  · simp only [raw, vw]; rw [gt_rep]; grind
  · simp only [raw, vw]; rw [gt_rep]; grind
  · have rk := raw_ok (stay := stay) w hs hb hl k (by omega)
    have u := rk.up (four_b sh).1 (four_b sh).2
    have wo := (wants_ok u hs hk).ok i hi
    have cp := mul_pos1 hB u.c1
    show _ ∧ _ ≤ vw (base * (raw n R m be lim stay sh k).c) (raw n R m be lim stay sh k).s i
    rw [← upv _ _ i rk.c1 (by rw [rk.ls]; exact hi)]
    constructor
    · have e : (0 : Rat) = ((0 : Int) : Rat) / ((1 : Int) : Rat) := by rw [Rat.intCast_zero, Rat.intCast_one]; grind
      rw [e]
      exact (rat_le (by decide) cp).mpr (by omega)
    · exact (rat_le cp cp).mpr (Int.mul_le_mul_of_nonneg_right wo.2 (by omega))
  · have rk := raw_ok (stay := stay) w hs hb hl k (by omega)
    have u := rk.up (four_b sh).1 (four_b sh).2
    have cp := mul_pos1 hB u.c1
    show vw _ _ i = _
    rw [main k hk i hi]
    show _ = vw _ _ i + if stay then mxR _ (vw _ (raw n R m be lim stay sh k).s i + vw _ (raw n R m be lim stay sh k).k i - _) else mnR _ (_ - vw _ (raw n R m be lim stay sh k).g i)
    rw [← upv _ (raw n R m be lim stay sh k).s i rk.c1 (by rw [rk.ls]; exact hi), ← upv _ (raw n R m be lim stay sh k).k i rk.c1 (by rw [rk.lk]; exact hi), ← upv _ (raw n R m be lim stay sh k).g i rk.c1 (by rw [rk.lg]; exact hi)]
    have hlim : vw base lim i = ((gt lim i * (up (fourOf sh) (raw n R m be lim stay sh k)).c : Int) : Rat) / ((base * (up (fourOf sh) (raw n R m be lim stay sh k)).c : Int) : Rat) := by
      rw [div_mul' hB u.c1]; rfl
    rw [hlim]
    have eu : ∀ x : St, (up (fourOf sh) x).s = x.s.map (fourOf sh * ·) := fun _ => rfl
    have eg : ∀ x : St, (up (fourOf sh) x).g = x.g.map (fourOf sh * ·) := fun _ => rfl
    have ek : ∀ x : St, (up (fourOf sh) x).k = x.k.map (fourOf sh * ·) := fun _ => rfl
    rw [← eu, ← eg, ← ek]
    generalize up (fourOf sh) (raw n R m be lim stay sh k) = x at *
    unfold vw goesOf
    rw [gt_range hi]
    cases stay
    · simp only [Bool.false_eq_true, if_false]
      rw [← mnR_div cp, Rat.intCast_sub]
      have : ((gt lim i * x.c : Int) : Rat) / ((base * x.c : Int) : Rat) - (gt x.g i : Rat) / ((base * x.c : Int) : Rat) = (((gt lim i * x.c : Int) : Rat) - (gt x.g i : Rat)) / ((base * x.c : Int) : Rat) := by grind
      rw [this]
    · simp only [if_true]
      rw [← mxR_div cp, Rat.intCast_sub, Rat.intCast_add]
      have : (gt x.s i : Rat) / ((base * x.c : Int) : Rat) + (gt x.k i : Rat) / ((base * x.c : Int) : Rat) - ((gt lim i * x.c : Int) : Rat) / ((base * x.c : Int) : Rat) = ((gt x.s i : Rat) + (gt x.k i : Rat) - ((gt lim i * x.c : Int) : Rat)) / ((base * x.c : Int) : Rat) := by grind
      rw [this]
  · have rk := raw_ok (stay := stay) w hs hb hl k (by omega)
    have u := rk.up (four_b sh).1 (four_b sh).2
    have mk := main k hk i hi
    show vw _ _ i = vw _ _ i + vw _ _ i - (vw _ _ i - vw _ _ i)
    rw [mk, ← upv _ (raw n R m be lim stay sh k).k i rk.c1 (by rw [rk.lk]; exact hi), ← upv _ (raw n R m be lim stay sh k).s i rk.c1 (by rw [rk.ls]; exact hi)]
    simp only [raw]
    have eu : ∀ x : St, (up (fourOf sh) x).s = x.s.map (fourOf sh * ·) := fun _ => rfl
    have ek : ∀ x : St, (up (fourOf sh) x).k = x.k.map (fourOf sh * ·) := fun _ => rfl
    rw [← eu, ← ek]
    generalize up (fourOf sh) (raw n R m be lim stay sh k) = x at *
    generalize hz : goesOf n lim stay (wantsOf n sh stay k x) x = z at *
    unfold vw
    simp only [next, hz]
    rw [gt_range hi, ← Int.mul_assoc, div_mul' (mul_pos1 hB u.c1) w.m1, Rat.intCast_sub, Rat.intCast_add]
    grind
  · have rk := raw_ok (stay := stay) w hs hb hl k (by omega)
    have u := rk.up (four_b sh).1 (four_b sh).2
    have cp := mul_pos1 hB u.c1
    show vw _ _ j = _
    rw [stp_int w (fun i => gt (goesOf n lim stay (wantsOf n sh stay k (up (fourOf sh) (raw n R m be lim stay sh k))) (up (fourOf sh) (raw n R m be lim stay sh k))) i) (base * (up (fourOf sh) (raw n R m be lim stay sh k)).c) cp _ (fun i hi => by
      show vw _ _ i - vw _ _ i = _
      rw [main k hk i hi]
      grind) j]
    simp only [raw]
    unfold vw
    simp only [next]
    rw [gt_range hj, Int.mul_assoc]
end My
set_option Elab.async false
set_option linter.all false
set_option maxRecDepth 100000
set_option maxHeartbeats 400000
namespace My
/-! ### counting the codes of walkers led by dice -/
theorem sI_congr {f g : Nat → Int} : ∀ {n : Nat}, (∀ i < n, f i = g i) → sI n f = sI n g
  | 0, _ => by simp [sI]
  | n + 1, h => by rw [sI_succ, sI_succ, sI_congr fun i hi => h i (by omega), h n (by omega)]
theorem sI_zero : ∀ n : Nat, sI n (fun _ => 0) = 0
  | 0 => by simp [sI]
  | n + 1 => by rw [sI_succ, sI_zero n]; rfl
theorem sI_add (f g : Nat → Int) : ∀ n : Nat, sI n (fun i => f i + g i) = sI n f + sI n g
  | 0 => by simp [sI]
  | n + 1 => by rw [sI_succ, sI_succ, sI_succ, sI_add f g n]; omega
theorem sI_mulL (k : Int) (f : Nat → Int) : ∀ n : Nat, sI n (fun i => k * f i) = k * sI n f
  | 0 => by simp [sI]
  | n + 1 => by rw [sI_succ, sI_succ, sI_mulL k f n, Int.mul_add]
theorem sI_mulR (k : Int) (f : Nat → Int) (n : Nat) : sI n (fun i => f i * k) = sI n f * k := by
  rw [Int.mul_comm, ← sI_mulL]
  exact sI_congr fun i _ => Int.mul_comm ..
theorem sI_swap (f : Nat → Nat → Int) (m : Nat) : ∀ n : Nat, sI n (fun i => sI m fun j => f i j) = sI m fun j => sI n fun i => f i j
  | 0 => by simp only [show ∀ g, sI 0 g = 0 from fun g => by simp [sI]]; exact (sI_zero m).symm
  | n + 1 => by
    rw [sI_succ, sI_swap f m n, ← sI_add]
    exact sI_congr fun j _ => (sI_succ ..).symm
theorem sI_const (k : Int) : ∀ n : Nat, sI n (fun _ => k) = n * k
  | 0 => by simp [sI]
  | n + 1 => by rw [sI_succ, sI_const k n, Int.natCast_add, Int.add_mul]; simp
theorem sI_split (f : Nat → Int) (m : Nat) : ∀ n : Nat, sI (m + n) f = sI m f + sI n fun i => f (m + i)
  | 0 => by simp [sI]
  | n + 1 => by rw [← Nat.add_assoc, sI_succ, sI_split f m n, sI_succ]; omega
/-- a sum over codes, by the lowest digit and the rest -/
theorem sI_digit (b : Nat) (f : Nat → Int) : ∀ k : Nat, sI (b * k) f = sI k fun c => sI b fun d => f (d + b * c)
  | 0 => by simp [sI]
  | k + 1 => by
    rw [Nat.mul_succ, sI_split, sI_digit b f k, sI_succ]
    congr 1
    exact sI_congr fun i _ => by rw [Nat.add_comm]
theorem sI_pair (b : Nat) (f : Nat → Int) (k : Nat) : sI (b * b * k) f = sI k fun c => sI b fun d => sI b fun e => f (d + b * (e + b * c)) := by
  rw [Nat.mul_assoc, sI_digit]
  rw [sI_digit b (fun c => sI b fun d => f (d + b * c))]
  exact sI_congr fun c _ => sI_swap ..
/-- a sum by the places that the second digit leads to -/
theorem sI_one (n q : Nat) (hq : q < n) (k : Int) : sI n (fun p => if p = q then k else 0) = k := by
  induction n with
  | zero => omega
  | succ n ih =>
    rw [sI_succ]
    by_cases h : n = q
    · subst h
      rw [if_pos rfl, sI_congr (g := fun _ => 0) fun i hi => if_neg (by omega), sI_zero]
      omega
    · rw [ih (by omega), if_neg h]
      omega
theorem sI_group (n b : Nat) (to : Nat → Nat) (ht : ∀ e < b, to e < n) (F : Nat → Int) : (sI b fun e => F (to e)) = sI n fun j => (sI b fun e => if to e = j then 1 else 0) * F j := by
  have e1 : (sI b fun e => F (to e)) = sI b fun e => sI n fun j => if j = to e then F j else 0 := sI_congr fun e he => by
    rw [sI_congr (g := fun j => if j = to e then F (to e) else 0) fun j _ => by split <;> simp_all]
    exact (sI_one n (to e) (ht e he) _).symm
  rw [e1, sI_swap]
  refine sI_congr fun j _ => ?_
  rw [← sI_mulR]
  refine sI_congr fun e _ => ?_
  by_cases h : j = to e
  · rw [if_pos h, if_pos h.symm, Int.one_mul]
  · rw [if_neg h, if_neg (Ne.symm h), Int.zero_mul]
section
variable (n b : Nat) (go : Nat → Nat → Nat → Bool) (to : Nat → Nat → Nat)
/-- what a code adds to the goes, the stays, the ends: W is told at each place of the way -/
def adds (A B : Nat → Nat → Int) (Z : Nat → Int) : Nat → Nat → Nat → Nat → Int
  | 0, _, p, _ => Z p
  | m + 1, t, p, c => if go p t (c % b) then A t p + adds A B Z m (t + 1) (to p (c / b % b)) (c / (b * b)) else B t p
def share (p t : Nat) : Int := sI b fun d => if go p t d then 1 else 0
def cnt (p j : Nat) : Int := sI b fun e => if to p e = j then 1 else 0
/-- all codes together -/
def tot (A B : Nat → Nat → Int) (Z : Nat → Int) (m t p : Nat) : Int := sI ((b * b) ^ m) (adds b go to A B Z m t p)
/-- the law's walk of the weights -/
def fwd (A B : Nat → Nat → Int) (Z : Nat → Int) : Nat → Nat → (Nat → Int) → Int
  | 0, _, v => sI n fun p => v p * Z p
  | m + 1, t, v => (sI n fun p => v p * share b go p t * b * (b * b : Nat) ^ m * A t p) + (sI n fun p => v p * (b - share b go p t) * b * (b * b : Nat) ^ m * B t p) + fwd A B Z m (t + 1) fun j => sI n fun p => v p * share b go p t * cnt b to p j
variable {n b go to}
theorem share_not (p t : Nat) : (sI b fun d => if go p t d then (0 : Int) else 1) = b - share b go p t := by
  have : (sI b fun d => if go p t d then (0 : Int) else 1) + share b go p t = b := by
    unfold share
    rw [← sI_add, sI_congr (g := fun _ => 1) fun d _ => by split <;> rfl, sI_const, Int.mul_one]
  omega
theorem tot_succ (hb : 1 ≤ b) (ht : ∀ p < n, ∀ e < b, to p e < n) (A B : Nat → Nat → Int) (Z : Nat → Int) (m t p : Nat) (hp : p < n) :
    tot b go to A B Z (m + 1) t p = share b go p t * b * (b * b : Nat) ^ m * A t p + (b - share b go p t) * b * (b * b : Nat) ^ m * B t p + share b go p t * sI n fun j => cnt b to p j * tot b go to A B Z m (t + 1) j := by
  unfold tot
  rw [Nat.pow_succ, Nat.mul_comm, sI_pair]
  have term : ∀ c, (sI b fun d => sI b fun e => adds b go to A B Z (m + 1) t p (d + b * (e + b * c))) = share b go p t * (b * A t p) + share b go p t * (sI b fun e => adds b go to A B Z m (t + 1) (to p e) c) + (b - share b go p t) * (b * B t p) := fun c => by
    have inner : ∀ d < b, (sI b fun e => adds b go to A B Z (m + 1) t p (d + b * (e + b * c))) = (if go p t d then 1 else 0) * (b * A t p) + (if go p t d then 1 else 0) * (sI b fun e => adds b go to A B Z m (t + 1) (to p e) c) + (if go p t d then 0 else 1) * (b * B t p) := fun d hd => by
      have each : ∀ e < b, adds b go to A B Z (m + 1) t p (d + b * (e + b * c)) = if go p t d then A t p + adds b go to A B Z m (t + 1) (to p e) c else B t p := fun e he => by
        have d1 : (d + b * (e + b * c)) % b = d := by rw [Nat.add_mul_mod_self_left, Nat.mod_eq_of_lt hd]
        have d2 : (d + b * (e + b * c)) / b = e + b * c := by rw [Nat.add_mul_div_left _ _ (by omega), Nat.div_eq_of_lt hd, Nat.zero_add]
        have d3 : (d + b * (e + b * c)) / (b * b) = c := by rw [← Nat.div_div_eq_div_mul, d2, Nat.add_mul_div_left _ _ (by omega), Nat.div_eq_of_lt he, Nat.zero_add]
        show (if go p t ((d + b * (e + b * c)) % b) then A t p + adds b go to A B Z m (t + 1) (to p ((d + b * (e + b * c)) / b % b)) ((d + b * (e + b * c)) / (b * b)) else B t p) = _
        rw [d1, d2, d3, Nat.add_mul_mod_self_left, Nat.mod_eq_of_lt he]
      rw [sI_congr each]
      cases go p t d
      · simp only [Bool.false_eq_true, if_false]
        rw [sI_const]
        omega
      · simp only [if_true]
        rw [sI_add, sI_const]
        omega
    rw [sI_congr inner, sI_add, sI_add, sI_mulR, sI_mulR, sI_mulR, share_not]
    rfl
  rw [sI_congr fun c _ => term c, sI_add, sI_add, sI_const, sI_const, sI_mulL, sI_swap]
  have gr : (sI b fun e => sI ((b * b) ^ m) fun c => adds b go to A B Z m (t + 1) (to p e) c) = sI n fun j => cnt b to p j * sI ((b * b) ^ m) (adds b go to A B Z m (t + 1) j) := sI_group n b (to p) (ht p hp) fun j => sI ((b * b) ^ m) (adds b go to A B Z m (t + 1) j)
  rw [gr, Int.natCast_pow]
  generalize ((b * b : Nat) : Int) ^ m = M
  generalize share b go p t = s
  have e1 : M * (s * ((b : Int) * A t p)) = s * b * M * A t p := by rw [Int.mul_left_comm, Int.mul_assoc s, Int.mul_assoc s]; congr 1; rw [Int.mul_left_comm, Int.mul_assoc]
  have e2 : M * (((b : Int) - s) * ((b : Int) * B t p)) = (b - s) * b * M * B t p := by rw [Int.mul_left_comm, Int.mul_assoc (b - s), Int.mul_assoc (b - s)]; congr 1; rw [Int.mul_left_comm, Int.mul_assoc]
  rw [e1, e2]
  omega
/-- all codes together are the law's walk of the weights -/
theorem tot_fwd (hb : 1 ≤ b) (ht : ∀ p < n, ∀ e < b, to p e < n) (A B : Nat → Nat → Int) (Z : Nat → Int) : ∀ (m t : Nat) (v : Nat → Int), (sI n fun p => v p * tot b go to A B Z m t p) = fwd n b go to A B Z m t v
  | 0, t, v => by
    show _ = sI n fun p => v p * Z p
    refine sI_congr fun p _ => ?_
    unfold tot
    rw [Nat.pow_zero]
    show v p * sI 1 _ = _
    simp [sI, adds]
  | m + 1, t, v => by
    have ih := tot_fwd hb ht A B Z m (t + 1) fun j => sI n fun p => v p * share b go p t * cnt b to p j
    show _ = (sI n fun p => v p * share b go p t * b * (b * b : Nat) ^ m * A t p) + (sI n fun p => v p * (b - share b go p t) * b * (b * b : Nat) ^ m * B t p) + fwd n b go to A B Z m (t + 1) fun j => sI n fun p => v p * share b go p t * cnt b to p j
    rw [← ih, sI_congr fun p hp => by rw [tot_succ hb ht A B Z m t p hp]]
    have e3 : (sI n fun j => (sI n fun p => v p * share b go p t * cnt b to p j) * tot b go to A B Z m (t + 1) j) = sI n fun p => v p * (share b go p t * sI n fun j => cnt b to p j * tot b go to A B Z m (t + 1) j) := by
      rw [sI_congr fun j _ => (sI_mulR ..).symm, sI_swap]
      refine sI_congr fun p _ => ?_
      rw [← Int.mul_assoc, ← sI_mulL]
      exact sI_congr fun j _ => by rw [Int.mul_assoc]
    rw [e3, ← sI_add, ← sI_add]
    refine sI_congr fun p _ => ?_
    rw [Int.mul_add, Int.mul_add]
    simp only [Int.mul_assoc]
end
end My
set_option Elab.async false
set_option linter.all false
set_option maxRecDepth 100000
set_option maxHeartbeats 4000000
set_option exponentiation.threshold 20000
namespace My
open PySem PySem.Spec PyProof.Rows L2 PD
/-! rules that no law's text is needed for -/
@[simp] theorem e_fnK (n m : Nat) (ix : List Nat) (F : Op) (g : Dens) (ρ : EnvD) (S : Store) : dFnK n m ix F g ρ S = bndl (g ρ S) fun ds S1 => if ds.length = m ∧ (permL ix ds).length = n then F (permL ix ds) S1 else none := rfl
@[simp] theorem e_asg (f : Den) (t : TDen) (ρ : EnvD) (S : Store) : sAsg f t ρ S = bndS (f ρ S) ρ fun d S1 => (t d ρ S1).map fun ρ1 => .nx ρ1 S1 := rfl
@[simp] theorem e_neg (f : Den) (ρ : EnvD) (S : Store) : dUn oNeg f ρ S = bnd (f ρ S) fun x S1 => oNeg x S1 := rfl
@[simp] theorem e_negI (i : Int) (S : Store) : oNeg (.int i) S = some (.ok (.int (-i)) S) := rfl
@[simp] theorem e_ix0 (x : D) (xs : List D) (S : Store) : oIx (.tup (x :: xs)) (.int 0) S = some (.ok x S) := by simp [oIx, asSeq, atI, ixN]
@[simp] theorem e_ix1 (x y : D) (xs : List D) (S : Store) : oIx (.tup (x :: y :: xs)) (.int 1) S = some (.ok y S) := by simp [oIx, asSeq, atI, ixN, show (1 : Int) < (xs.length : Int) + 1 + 1 by omega]
@[simp] theorem e_lenT (xs : List D) (S : Store) : oLen [.tup xs] S = some (.ok (.int xs.length) S) := by simp [oLen, asSeq]
@[simp] theorem e_lenL (xs : List D) (S : Store) : oLen [.lst xs] S = some (.ok (.int xs.length) S) := by simp [oLen, asSeq]
@[simp] theorem fits2 : fits 2 = true := by decide
@[simp] theorem fits1 : fits 1 = true := by decide
def small (a : Int) : Prop := a.natAbs < 2 ^ 2000
theorem log_small {a : Int} (h : small a) : a.natAbs.log2 < 2000 := by
  by_cases h0 : a.natAbs = 0
  · rw [h0]; decide
  · exact (Nat.log2_lt h0).mpr h
theorem fits_small {a b : Int} (ha : small a) (hb : small b) : mulFits a b = true := by
  unfold mulFits
  have h1 := log_small ha
  have h2 := log_small hb
  rw [decide_eq_true (show a.natAbs.log2 + b.natAbs.log2 < 1000000 by omega), Bool.or_true]
@[simp] theorem e_addI (a b : Int) (S : Store) : oPlus (.int a) (.int b) S = some (.ok (.int (a + b)) S) := rfl
theorem e_mulI {a b : Int} (ha : small a) (hb : small b) (S : Store) : oMul (.int a) (.int b) S = some (.ok (.int (a * b)) S) := by
  simp only [oMul, fits_small ha hb, if_true]
theorem natAbs_mul_lt {a b : Int} {m n : Nat} (ha : a.natAbs < 2 ^ m) (hb : b.natAbs < 2 ^ n) : (a * b).natAbs < 2 ^ (m + n) := by
  rw [Int.natAbs_mul, Nat.pow_add]
  exact Nat.mul_lt_mul'' ha hb
theorem fn_rtM {O : Op} {N : List Str} {g : SDen} [i : Is O N g] {ds : List D} {S : Store} {acc : List D} (h : g (startD N ds) S = some (.rt (.ref S.length) (S ++ [acc]))) (hc : closeds acc = true) : O ds S = some (.ok (.lst acc) S) := by
  rw [i.eq]
  unfold fnOf
  rw [h]
  simp [fin, fz, fzg, mapRef, maps_closed hc]
theorem e_mulR {a b : Int} (hb : small64 b = true) (S : Store) : oMul (.int a) (.int b) S = some (.ok (.int (a * b)) S) := by
  simp [oMul, mulFits, hb]
@[simp] theorem e_app (fo fe : Den) (ρ : EnvD) (S : Store) : dApp fo fe ρ S = bnd (fo ρ S) fun o S1 => match o with
  | .ref n => bnd (fe ρ S1) fun d S2 => (match S2[n]? with
    | some xs => if xs.length < 16777216 then some (.ok .non (S2.set n (xs ++ [d]))) else none
    | none => none)
  | _ => none := rfl
theorem small64_of {a m : Int} (h0 : 0 ≤ a) (h1 : a < m) (hm : m ≤ 2 ^ 62) : PD.small64 a = true := by
  unfold PD.small64
  rw [decide_eq_true (by omega), decide_eq_true (by omega)]
  rfl
@[simp] theorem e_lenS (ns : List Int) (S : Store) : oLen [.scr ns] S = some (.ok (.int ns.length) S) := by simp [oLen, asSeq]
theorem ixS {ns : List Int} {i : Int} (h0 : 0 ≤ i) (h1 : i < ns.length) (S : Store) : oIx (.scr ns) (.int i) S = some (.ok (.int (ns.getD i.toNat 0)) S) := by
  have hn : i.toNat < ns.length := by omega
  have h2 : i < ((ns.map D.int).length : Int) := by simpa using h1
  simp only [oIx, asSeq, atI, ixN, h0, h2, if_true, Option.bind_some]
  rw [List.getElem?_map, List.getElem?_eq_getElem hn]
  simp [List.getD, List.getElem?_eq_getElem hn]
theorem flat_rep (k : Nat) (x : D) : (List.replicate k [x]).flatten = List.replicate k x := by
  induction k with
  | zero => rfl
  | succ k ih => rw [List.replicate_succ, List.flatten_cons, ih, List.replicate_succ]; rfl
theorem ixL (xs : List D) (j : Int) (h0 : 0 ≤ j) (h1 : j < xs.length) : ∃ x, x ∈ xs ∧ ∀ S, oIx (.lst xs) (.int j) S = some (.ok x S) := by
  have hn : j.toNat < xs.length := by omega
  refine ⟨xs[j.toNat], List.getElem_mem hn, fun S => ?_⟩
  simp only [oIx, asSeq, atI, ixN, h0, h1, if_true, Option.bind_some]
  rw [List.getElem?_eq_getElem hn]
  rfl
section
variable {ρ : EnvD} {S : Store} {own : List Nat} {t : Tg} {elt cnd : Den} {f : Iens}
theorem range1_of {g : Den} {n : Nat} {S1 : Store} (h : g ρ S = some (.ok (.int (n : Nat)) S1)) (hn : n ≤ 16777216) : dRange1 g ρ S = some (.ok (rgD 0 n) none S1) := by
  have lo : -(2 ^ 62) ≤ ((n : Nat) : Int) := by omega
  have hi : ((n : Nat) : Int) < 2 ^ 62 := by omega
  rw [e_range1, h, bndi_ok]
  simp only [lo, hi, and_self, if_true, Int.toNat_natCast]
def ixOf (h : Nat → D) : D → D
  | .int i => h i.toNat
  | _ => .non
theorem rg_map (n : Nat) (h : Nat → D) : (rgD 0 n).map (ixOf h) = (List.range n).map h := by
  unfold rgD
  rw [List.map_map]
  refine List.map_congr_left fun i _ => ?_
  simp [ixOf]
theorem rg_mem {n : Nat} {x : D} (hx : x ∈ rgD 0 n) : ∃ i : Nat, i < n ∧ x = .int (i : Nat) := by
  unfold rgD at hx
  obtain ⟨i, hi, rfl⟩ := List.mem_map.mp hx
  exact ⟨i, List.mem_range.mp hi, by simp⟩
theorem lc_range (n : Nat) (h : Nat → D) (ρ' : Nat → EnvD) (hf : f ρ S = some (.ok (rgD 0 n) none S)) (ht : ∀ i < n, t.go (.int (i : Nat)) (wipeD ρ own) = some (ρ' i)) (he : ∀ i < n, ∀ T, elt (ρ' i) T = some (.ok (h i) T))
    (hl : n ≤ 16777216) (cl : closeds ((List.range n).map h) = true) : dLc own f t dYes elt ρ S = some (.ok (.lst ((List.range n).map h)) S) := by
  have e := lc_map (elt := elt) (ixOf h) (fun d => match d with | .int i => ρ' i.toNat | _ => ρ) hf (fun x hx => by
    obtain ⟨i, hi, rfl⟩ := rg_mem hx
    simpa using ht i hi) (fun x hx T => by
    obtain ⟨i, hi, rfl⟩ := rg_mem hx
    simpa [ixOf] using he i hi T) (by rw [rgD_length]; exact hl) (by rw [rg_map]; exact cl)
  rwa [rg_map] at e
theorem lc_loopI (all : List D) (F h : Nat → D) (p : Nat → Bool) (ρ' : Nat → EnvD) : ∀ (xs : List Nat) (acc : List D), (∀ x ∈ xs, t.go (F x) (wipeD ρ own) = some (ρ' x)) → (∀ x ∈ xs, ∀ T, cnd (ρ' x) T = some (.ok (.bl (p x)) T)) → (∀ x ∈ xs, p x = true → ∀ T, elt (ρ' x) T = some (.ok (h x) T)) →
    acc.length + xs.length ≤ 16777216 → lcLoop own t cnd elt ρ S.length none all (xs.map F) (S ++ [acc]) = some (S ++ [acc ++ (xs.filter p).map h])
  | [], acc, _, _, _, _ => by simp [lcLoop]
  | x :: xs, acc, ht, hc, he, hl => by
    have ih := fun a => lc_loopI all F h p ρ' xs a (fun y hy => ht y (List.mem_cons_of_mem _ hy)) (fun y hy => hc y (List.mem_cons_of_mem _ hy)) (fun y hy => he y (List.mem_cons_of_mem _ hy))
    simp only [List.length_cons] at hl
    simp only [List.map_cons, lcLoop, ht x List.mem_cons_self, hc x List.mem_cons_self]
    cases hp : p x with
    | false =>
      simp only [Bool.false_eq_true, if_false, ckOf_none, if_true]
      rw [ih acc (by omega)]
      simp [hp]
    | true =>
      simp only [if_true, he x List.mem_cons_self hp, get_last, ckOf_none, set_last, and_true]
      rw [if_pos (by omega), ih (acc ++ [h x]) (by simp; omega)]
      simp [hp]
theorem lc_idxF (xs : List Nat) (F h : Nat → D) (p : Nat → Bool) (ρ' : Nat → EnvD) (hf : f ρ S = some (.ok (xs.map F) none S)) (ht : ∀ x ∈ xs, t.go (F x) (wipeD ρ own) = some (ρ' x)) (hc : ∀ x ∈ xs, ∀ T, cnd (ρ' x) T = some (.ok (.bl (p x)) T)) (he : ∀ x ∈ xs, p x = true → ∀ T, elt (ρ' x) T = some (.ok (h x) T))
    (hl : xs.length ≤ 16777216) (cl : closeds ((xs.filter p).map h) = true) : dLc own f t cnd elt ρ S = some (.ok (.lst ((xs.filter p).map h)) S) := by
  have e := lc_loopI (S := S) (xs.map F) F h p ρ' xs [] ht hc he (by simpa using hl)
  unfold dLc
  rw [hf]
  simp only [e, List.nil_append, get_last, List.take_left', fzs_closed cl]
  simp
theorem lc_idx (xs : List Nat) (F h : Nat → D) (ρ' : Nat → EnvD) (hf : f ρ S = some (.ok (xs.map F) none S)) (ht : ∀ x ∈ xs, t.go (F x) (wipeD ρ own) = some (ρ' x)) (he : ∀ x ∈ xs, ∀ T, elt (ρ' x) T = some (.ok (h x) T))
    (hl : xs.length ≤ 16777216) (cl : closeds (xs.map h) = true) : dLc own f t dYes elt ρ S = some (.ok (.lst (xs.map h)) S) := by
  have k : xs.filter (fun _ => true) = xs := List.filter_eq_self.mpr fun _ _ => rfl
  have e := lc_idxF (cnd := dYes) xs F h (fun _ => true) ρ' hf ht (fun x hx T => rfl) (fun x hx _ => he x hx) hl (by rw [k]; exact cl)
  rwa [k] at e
end
theorem ixT {xs : List Int} {i : Nat} (hi : i < xs.length) (S : Store) : oIx (.tup (xs.map .int)) (.int (i : Nat)) S = some (.ok (.int (gt xs i)) S) := by
  have h2 : ((i : Nat) : Int) < ((xs.map D.int).length : Int) := by simp; omega
  have h3 : (0 : Int) ≤ ((i : Nat) : Int) := by omega
  simp only [oIx, asSeq, atI, ixN, h2, h3, if_true, Option.bind_some, Int.toNat_natCast]
  rw [List.getElem?_map, List.getElem?_eq_getElem hi]
  simp [gt, List.getD, List.getElem?_eq_getElem hi]
theorem e_len2 (ts : List Int) (b : Int) (S : Store) : oLen [.tup (ts.map .int)] S = some (.ok (.int ts.length) S) := by simp [oLen, asSeq]
theorem getD_small {ts : List Int} (h : ∀ x ∈ ts, small x) (i : Nat) : small (gt ts i) := by
  unfold gt
  by_cases hi : i < ts.length
  · rw [List.getD, List.getElem?_eq_getElem hi]
    exact h _ (List.getElem_mem hi)
  · rw [List.getD, List.getElem?_eq_none (by omega)]
    show (0 : Int).natAbs < 2 ^ 2000
    exact Nat.pos_of_ne_zero (by simp)
theorem closeds_ints {α : Type} (xs : List α) (g : α → Int) : closeds (xs.map fun x => D.int (g x)) = true := by simp [closeds_all, closed]
theorem enum_map {α : Type} (F : α → D) : ∀ (xs : List α) (k : Nat), enumD k (xs.map F) = (xs.zipIdx k).map fun q => .tup [.int (q.2 : Nat), F q.1]
  | [], k => rfl
  | x :: xs, k => by simp [enumD, enum_map F xs (k + 1)]
theorem enum_range (n : Nat) (F : Nat → D) : enumD 0 ((List.range n).map F) = (List.range n).map fun i => .tup [.int (i : Nat), F i] := by
  rw [enum_map, List.zipIdx_eq_zip_range']
  have : (List.range n).zip (List.range' 0 (List.range n).length) = (List.range n).map fun i => (i, i) := by
    rw [List.length_range, ← List.range_eq_range']
    generalize List.range n = l
    induction l with
    | nil => rfl
    | cons a l ih => rw [List.zip_cons_cons, ih, List.map_cons]
  rw [this, List.map_map]
  rfl
theorem ixLi {xs : List Int} {i : Nat} (hi : i < xs.length) (S : Store) : oIx (.lst (xs.map .int)) (.int (i : Nat)) S = some (.ok (.int (gt xs i)) S) := by
  have h2 : ((i : Nat) : Int) < ((xs.map D.int).length : Int) := by simp; omega
  have h3 : (0 : Int) ≤ ((i : Nat) : Int) := by omega
  simp only [oIx, asSeq, atI, ixN, h2, h3, if_true, Option.bind_some, Int.toNat_natCast]
  rw [List.getElem?_map, List.getElem?_eq_getElem hi]
  simp [gt, List.getD, List.getElem?_eq_getElem hi]
theorem ixI (xs : List Int) (j : Int) (h0 : 0 ≤ j) (h1 : j < xs.length) : gt xs j.toNat ∈ xs ∧ ∀ S, oIx (.lst (xs.map .int)) (.int j) S = some (.ok (.int (gt xs j.toNat)) S) := by
  have hl : j.toNat < xs.length := by omega
  refine ⟨by simp only [gt, List.getD, List.getElem?_eq_getElem hl, Option.getD_some]; exact List.getElem_mem hl, fun S => ?_⟩
  have := ixLi hl S
  rwa [Int.toNat_of_nonneg h0] at this
section
variable {ρ : EnvD} {S : Store} {own : List Nat} {t : Tg} {elt cnd : Den} {f : Iens} {items all : List D} {td : TDen} {g : SDen}
theorem loop_consW {n : Nat} {x : D} {xs : List D} {ρ1 ρ2 : EnvD} {R : Option SRes} (hk : S[n]? = some all) (ht : td x ρ S = some ρ1) (hg : g ρ1 S = some (.nx ρ2 S)) (hr : forLoop (some n) all td g xs ρ2 S = R) : forLoop (some n) all td g (x :: xs) ρ S = R := by
  simp only [forLoop, ht, hg]
  rw [if_pos (show ckOf (some n) all S from hk)]
  exact hr
theorem lcM_map (h : D → D) (ρ' : D → EnvD) (hf : f ρ S = some (.ok items none S)) (ht : ∀ x ∈ items, t.go x (wipeD ρ own) = some (ρ' x)) (he : ∀ x ∈ items, ∀ T, elt (ρ' x) T = some (.ok (h x) T)) (hl : items.length ≤ 16777216) : dLcM own f t dYes elt ρ S = some (.ok (.ref S.length) (S ++ [items.map h])) := by
  have e := lc_loop (cnd := dYes) (S := S) (own := own) (t := t) (elt := elt) (ρ := ρ) items h (fun _ => true) ρ' items [] ht (fun x hx T => rfl) (fun x hx _ => he x hx) (by simpa using hl)
  have k : items.filter (fun _ => true) = items := List.filter_eq_self.mpr fun _ _ => rfl
  unfold dLcM
  rw [hf]
  simp only [e, List.nil_append, k]
  rfl
theorem lcM_range (n : Nat) (h : Nat → D) (ρ' : Nat → EnvD) (hf : f ρ S = some (.ok (rgD 0 n) none S)) (ht : ∀ i < n, t.go (.int (i : Nat)) (wipeD ρ own) = some (ρ' i)) (he : ∀ i < n, ∀ T, elt (ρ' i) T = some (.ok (h i) T))
    (hl : n ≤ 16777216) : dLcM own f t dYes elt ρ S = some (.ok (.ref S.length) (S ++ [(List.range n).map h])) := by
  have e := lcM_map (elt := elt) (ixOf h) (fun d => match d with | .int i => ρ' i.toNat | _ => ρ) hf (fun x hx => by
    obtain ⟨i, hi, rfl⟩ := rg_mem hx
    simpa using ht i hi) (fun x hx T => by
    obtain ⟨i, hi, rfl⟩ := rg_mem hx
    simpa [ixOf] using he i hi T) (by rw [rgD_length]; exact hl)
  rwa [rg_map] at e
theorem lcW_loop {n : Nat} (hk : S[n]? = some all) (h : D → D) (ρ' : D → EnvD) : ∀ (xs acc : List D), (∀ x ∈ xs, t.go x (wipeD ρ own) = some (ρ' x)) → (∀ x ∈ xs, ∀ T, elt (ρ' x) T = some (.ok (h x) T)) →
    acc.length + xs.length ≤ 16777216 → lcLoop own t dYes elt ρ S.length (some n) all xs (S ++ [acc]) = some (S ++ [acc ++ xs.map h])
  | [], acc, _, _, _ => by simp [lcLoop]
  | x :: xs, acc, ht, he, hl => by
    have hn : n < S.length := (List.getElem?_eq_some_iff.mp hk).1
    have ih := fun a => lcW_loop hk h ρ' xs a (fun y hy => ht y (List.mem_cons_of_mem _ hy)) (fun y hy => he y (List.mem_cons_of_mem _ hy))
    simp only [List.length_cons] at hl
    simp only [lcLoop, ht x List.mem_cons_self, dYes, if_true, he x List.mem_cons_self, get_last, set_last]
    have ck : ckOf (some n) all (S ++ [acc ++ [h x]]) := by
      show (S ++ [acc ++ [h x]])[n]? = some all
      rw [List.getElem?_append_left hn]
      exact hk
    rw [if_pos ⟨by omega, by rw [set_last]; exact ck⟩]
    have := ih (acc ++ [h x]) (by simp; omega)
    rw [this]
    simp
theorem lcW_map {n : Nat} (h : D → D) (ρ' : D → EnvD) (hf : f ρ S = some (.ok items (some n) S)) (hk : S[n]? = some items) (ht : ∀ x ∈ items, t.go x (wipeD ρ own) = some (ρ' x)) (he : ∀ x ∈ items, ∀ T, elt (ρ' x) T = some (.ok (h x) T)) (hl : items.length ≤ 16777216) (cl : closeds (items.map h) = true) : dLc own f t dYes elt ρ S = some (.ok (.lst (items.map h)) S) := by
  have e := lcW_loop (own := own) (t := t) (elt := elt) (ρ := ρ) hk h ρ' items [] ht he (by simpa using hl)
  unfold dLc
  rw [hf]
  simp only [e, List.nil_append, get_last, List.take_left', fzs_closed cl]
  simp
end
theorem s_store {ρ : EnvD} {S : Store} {fe fo fi : Den} {v : D} {n j : Nat} {k : Int} {xs : List D} (h1 : fe ρ S = some (.ok v S)) (h2 : fo ρ S = some (.ok (.ref n) S)) (h3 : fi ρ S = some (.ok (.int k) S)) (hx : S[n]? = some xs) (hj : ixN xs.length k = some j) : sStore fe fo fi ρ S = some (.nx ρ (S.set n (xs.set j v))) := by
  unfold sStore
  simp only [h1, bndS_ok, h2, h3, hx, hj, Option.map_some]
theorem x_items {ρ : EnvD} {S : Store} {f : Den} {d : D} {items : List D} {w : Option Nat} (h : f ρ S = some (.ok d S)) (hw : asWalk S d = some (items, w)) : dItems f ρ S = some (.ok items w S) := by
  rw [e_items, h, bndi_ok, hw]
  rfl
theorem loop_cons_nx {t : TDen} {g : SDen} {all : List D} {x : D} {xs : List D} {ρ ρ1 ρ2 : EnvD} {S : Store} {R : Option SRes} (ht : t x ρ S = some ρ1) (hg : g ρ1 S = some (.nx ρ2 S)) (hr : forLoop none all t g xs ρ2 S = R) : forLoop none all t g (x :: xs) ρ S = R := by
  rw [loop_cons, ht]
  simp only [hg]
  exact hr
end My
namespace PD
open PySem PySem.Spec PyProof.Rows L2 My
/-! ### rules: one expression, one statement at a time -/
section
variable {ρ ρ1 : EnvD} {S S1 : Store} {f g t : Den} {gs : Dens} {a b d : D} {ds : List D} {o : Op2} {F : Op} {r : Option Res} {n k m : Nat}
theorem x_bin {r : Option Res} (h1 : f ρ S = some (.ok a S)) (h2 : g ρ S = some (.ok b S)) (h : o a b S = r) : dBin o f g ρ S = r := by
  rw [e_bin, h1, bnd_ok, h2, bnd_ok, h]
theorem y_nil : dNil ρ S = some (.ok [] S) := rfl
theorem y_cons (h1 : f ρ S = some (.ok d S)) (h2 : gs ρ S = some (.ok ds S)) : dCons f gs ρ S = some (.ok (d :: ds) S) := by
  rw [e_consA, h1, bnds_ok, h2, bndls_ok]
theorem x_call (h : gs ρ S = some (.ok ds S)) (hF : F ds S = r) : dCall F gs ρ S = r := by
  rw [e_call, h, bndl_ok, hF]
theorem x_fn (h : gs ρ S = some (.ok ds S)) (hl : ds.length = n) (hF : F ds S = r) : dFn n F gs ρ S = r := by
  rw [e_fn, h, bndl_ok, if_pos hl, hF]
theorem x_fnK {ix : List Nat} (h : gs ρ S = some (.ok ds S)) (hl : ds.length = m ∧ (permL ix ds).length = n) (hF : F (permL ix ds) S = r) : dFnK n m ix F gs ρ S = r := by
  rw [e_fnK, h, bndl_ok, if_pos hl, hF]
variable {f1 f2 f3 f4 : Den} {d1 d2 d3 d4 : D}
theorem x_c1 (h1 : f1 ρ S = some (.ok d1 S)) (hF : F [d1] S = r) : dCall F (dCons f1 dNil) ρ S = r := x_call (y_cons h1 y_nil) hF
theorem x_c2 (h1 : f1 ρ S = some (.ok d1 S)) (h2 : f2 ρ S = some (.ok d2 S)) (hF : F [d1, d2] S = r) : dCall F (dCons f1 (dCons f2 dNil)) ρ S = r := x_call (y_cons h1 (y_cons h2 y_nil)) hF
theorem x_f1 (h1 : f1 ρ S = some (.ok d1 S)) (hF : F [d1] S = r) : dFn 1 F (dCons f1 dNil) ρ S = r := x_fn (y_cons h1 y_nil) rfl hF
theorem x_f2 (h1 : f1 ρ S = some (.ok d1 S)) (h2 : f2 ρ S = some (.ok d2 S)) (hF : F [d1, d2] S = r) : dFn 2 F (dCons f1 (dCons f2 dNil)) ρ S = r := x_fn (y_cons h1 (y_cons h2 y_nil)) rfl hF
theorem x_f3 (h1 : f1 ρ S = some (.ok d1 S)) (h2 : f2 ρ S = some (.ok d2 S)) (h3 : f3 ρ S = some (.ok d3 S)) (hF : F [d1, d2, d3] S = r) : dFn 3 F (dCons f1 (dCons f2 (dCons f3 dNil))) ρ S = r := x_fn (y_cons h1 (y_cons h2 (y_cons h3 y_nil))) rfl hF
theorem x_f4 (h1 : f1 ρ S = some (.ok d1 S)) (h2 : f2 ρ S = some (.ok d2 S)) (h3 : f3 ρ S = some (.ok d3 S)) (h4 : f4 ρ S = some (.ok d4 S)) (hF : F [d1, d2, d3, d4] S = r) : dFn 4 F (dCons f1 (dCons f2 (dCons f3 (dCons f4 dNil)))) ρ S = r := x_fn (y_cons h1 (y_cons h2 (y_cons h3 (y_cons h4 y_nil)))) rfl hF
theorem x_k1 (h1 : f1 ρ S = some (.ok d1 S)) (hF : F [d1] S = r) : dFnK 1 1 [0] F (dCons f1 dNil) ρ S = r := x_fnK (y_cons h1 y_nil) ⟨rfl, rfl⟩ hF
theorem x_k10 (h1 : f1 ρ S = some (.ok d1 S)) (h2 : f2 ρ S = some (.ok d2 S)) (hF : F [d2, d1] S = r) : dFnK 2 2 [1, 0] F (dCons f1 (dCons f2 dNil)) ρ S = r := x_fnK (y_cons h1 (y_cons h2 y_nil)) ⟨rfl, rfl⟩ hF
theorem x_tup (h : gs ρ S = some (.ok ds S)) (hf : fits ds.length = true) : dTup gs ρ S = some (.ok (.tup ds) S) := by
  rw [e_tup, h, bndl_ok, if_pos hf]
theorem x_lst (h : gs ρ S = some (.ok ds S)) (hf : fits ds.length = true) : dLst gs ρ S = some (.ok (.lst ds) S) := by
  rw [e_lst, h, bndl_ok, if_pos hf]
theorem x_and {p q : Bool} (h1 : f ρ S = some (.ok (.bl p) S)) (h2 : p = true → g ρ S = some (.ok (.bl q) S)) : dAnd f g ρ S = some (.ok (.bl (p && q)) S) := by
  rw [e_and, h1, bndB_ok]
  cases p
  · rfl
  · exact h2 rfl
theorem x_andT (h1 : f ρ S = some (.ok (.bl true) S)) (h2 : g ρ S = r) : dAnd f g ρ S = r := by
  rw [e_and, h1, bndB_ok, if_pos rfl, h2]
theorem x_andF (h1 : f ρ S = some (.ok (.bl false) S)) : dAnd f g ρ S = some (.ok (.bl false) S) := by
  rw [e_and, h1, bndB_ok, if_neg Bool.false_ne_true]
theorem x_orF (h1 : f ρ S = some (.ok (.bl false) S)) (h2 : g ρ S = r) : dOr f g ρ S = r := by
  rw [e_or, h1, bndB_ok, if_neg Bool.false_ne_true, h2]
theorem x_orT (h1 : f ρ S = some (.ok (.bl true) S)) : dOr f g ρ S = some (.ok (.bl true) S) := by
  rw [e_or, h1, bndB_ok, if_pos rfl]
theorem x_not {p : Bool} (h1 : f ρ S = some (.ok (.bl p) S)) : dNot f ρ S = some (.ok (.bl (!p)) S) := by
  rw [e_not, h1, bndB_ok]
theorem x_tru {p : Bool} (h1 : f ρ S = some (.ok d S)) (h : truth S d = some p) : dTru f ρ S = some (.ok (.bl p) S) := by
  rw [e_tru, h1, bnd_ok, h]
  rfl
/-- `if not f(..):` where the call gives True -/
theorem x_notT (h1 : f ρ S = some (.ok (.bl true) S)) : dNot (dTru f) ρ S = some (.ok (.bl false) S) := x_not (p := true) (x_tru h1 rfl)
theorem x_ifT (h1 : t ρ S = some (.ok (.bl true) S)) (h2 : f ρ S = r) : dIf t f g ρ S = r := by
  rw [e_ifx, h1, bndB_ok, if_pos rfl, h2]
theorem x_ifF (h1 : t ρ S = some (.ok (.bl false) S)) (h2 : g ρ S = r) : dIf t f g ρ S = r := by
  rw [e_ifx, h1, bndB_ok, if_neg Bool.false_ne_true, h2]
variable {st sa sb rest : SDen} {R : Option SRes}
theorem q_nx {S1 : Store} (h : st ρ S = some (.nx ρ1 S1)) (k : rest ρ1 S1 = R) : sSeq st rest ρ S = R := by
  rw [e_seq, h]
  exact k
theorem q_rt {S1 : Store} (h : st ρ S = some (.rt d S1)) : sSeq st rest ρ S = some (.rt d S1) := by
  rw [e_seq, h]
theorem s_set {S1 : Store} (h : f ρ S = some (.ok d S1)) : sSet n f ρ S = some (.nx (ρ.set n (some d)) S1) := by
  rw [e_set, h, bndS_ok]
theorem q_set {S1 : Store} (h : f ρ S = some (.ok d S1)) (k : rest (ρ.set n (some d)) S1 = R) : sSeq (sSet n f) rest ρ S = R := q_nx (s_set h) k
theorem q_expr {S1 : Store} (h : f ρ S = some (.ok d S1)) (k : rest ρ S1 = R) : sSeq (sExpr f) rest ρ S = R := q_nx (by rw [e_expr, h, bndS_ok]) k
theorem q_ret {S1 : Store} (h : f ρ S = some (.ok d S1)) : sSeq (sRet f) rest ρ S = some (.rt d S1) := q_rt (by rw [e_ret, h, bndS_ok])
theorem q_ifF (h : t ρ S = some (.ok (.bl false) S)) (k : rest ρ S = R) : sSeq (sIf t sa sNil) rest ρ S = R := q_nx (by rw [e_if, h]; rfl) k
theorem q_ifT {S1 : Store} (h : t ρ S = some (.ok (.bl true) S)) (h2 : sa ρ S = some (.nx ρ1 S1)) (k : rest ρ1 S1 = R) : sSeq (sIf t sa sb) rest ρ S = R := q_nx (by rw [e_if, h]; exact h2) k
theorem q_ifR {S1 : Store} (h : t ρ S = some (.ok (.bl true) S)) (h2 : sa ρ S = some (.rt d S1)) : sSeq (sIf t sa sb) rest ρ S = some (.rt d S1) := q_rt (by rw [e_if, h]; exact h2)
theorem q_for {S1 S2 : Store} {fi : Iens} {td : TDen} {items : List D} {w : Option Nat} (h : fi ρ S = some (.ok items w S1)) (hl : forLoop w items td st items ρ S1 = some (.nx ρ1 S2)) (k : rest ρ1 S2 = R) : sSeq (sFor fi td st) rest ρ S = R := q_nx ((for_of h).trans hl) k
/-- both numbers of a pair -/
theorem q_two {x y : D} {p q : Nat} (h : f ρ S = some (.ok (.tup [x, y]) S)) (k : rest ((ρ.set p (some x)).set q (some y)) S = R) : sSeq (sAsg f (PD.tTup 2 (PD.tCons (tName p) (PD.tCons (tName q) PD.tNil)))) rest ρ S = R := q_nx (by rw [e_asg, h, bndS_ok]; rfl) k
end
theorem o_mod {a b : Int} (hb : 0 < b) (S : Store) : oMod (.int a) (.int b) S = some (.ok (.int (a % b)) S) := by simp [oMod, hb]
theorem o_eqI (a b : Int) (S : Store) : oEq (.int a) (.int b) S = some (.ok (.bl (a == b)) S) := oEq_of (eqD_int a b)
theorem o_neI (a b : Int) (S : Store) : oNe (.int a) (.int b) S = some (.ok (.bl (!(a == b))) S) := oNe_of (eqD_int a b)
theorem o_addI (a b : Int) (S : Store) : oPlus (.int a) (.int b) S = some (.ok (.int (a + b)) S) := rfl
theorem o_subI (a b : Int) (S : Store) : oSub (.int a) (.int b) S = some (.ok (.int (a - b)) S) := rfl
theorem o_mulL {a b : Int} (h : small64 a = true) (S : Store) : oMul (.int a) (.int b) S = some (.ok (.int (a * b)) S) := by simp [oMul, mulFits, h]
theorem o_divI {a b : Int} (h : 0 < b) (h2 : b.natAbs.log2 < 9000) (S : Store) : oDiv (.int a) (.int b) S = some (.ok (.int (a / b)) S) := by simp [oDiv, h, h2]
/-- a list of one, repeated -/
theorem o_rep (x : D) (n : Nat) (hn : n ≤ 1000) (S : Store) : oMul (.lst [x]) (.int (n : Nat)) S = some (.ok (.lst (List.replicate n x)) S) := by
  show lMul (.lst [x]) (.int (n : Nat)) S = _
  simp only [lMul, asList]
  rw [if_pos ⟨by omega, by omega, by simp; omega⟩, Int.toNat_natCast, flat_rep]
end PD
namespace My
open PySem PySem.Spec PyProof.Rows L2 PD
theorem o_rep' (x : Int) (n : Nat) (hn : n ≤ 1000) (S : Store) : oMul (.lst [.int x]) (.int (n : Nat)) S = some (.ok (.lst ((List.replicate n x).map .int)) S) := by
  rw [o_rep _ n hn S, List.map_replicate]
end My
set_option Elab.async false
set_option linter.all false
set_option maxRecDepth 100000
set_option maxHeartbeats 400000
set_option exponentiation.threshold 20000
namespace PD
open PySem PySem.Spec PyProof.Rows L2 My
/-! ### rules where the store changes -/
section
variable {ρ ρ1 : EnvD} {S S1 S2 S3 S4 : Store} {f g t : Den} {gs : Dens} {a b d : D} {ds : List D} {o : Op2} {F : Op} {r : Option Res} {n k m : Nat}
theorem z_bin (h1 : f ρ S = some (.ok a S1)) (h2 : g ρ S1 = some (.ok b S2)) (h : o a b S2 = r) : dBin o f g ρ S = r := by
  rw [e_bin, h1, bnd_ok, h2, bnd_ok, h]
theorem w_nil : dNil ρ S = some (.ok [] S) := rfl
theorem w_cons (h1 : f ρ S = some (.ok d S1)) (h2 : gs ρ S1 = some (.ok ds S2)) : dCons f gs ρ S = some (.ok (d :: ds) S2) := by
  rw [e_consA, h1, bnds_ok, h2, bndls_ok]
theorem z_call (h : gs ρ S = some (.ok ds S1)) (hF : F ds S1 = r) : dCall F gs ρ S = r := by
  rw [e_call, h, bndl_ok, hF]
theorem z_fn (h : gs ρ S = some (.ok ds S1)) (hl : ds.length = n) (hF : F ds S1 = r) : dFn n F gs ρ S = r := by
  rw [e_fn, h, bndl_ok, if_pos hl, hF]
variable {f1 f2 f3 f4 : Den} {d1 d2 d3 d4 : D}
theorem z_f2 (h1 : f1 ρ S = some (.ok d1 S1)) (h2 : f2 ρ S1 = some (.ok d2 S2)) (hF : F [d1, d2] S2 = r) : dFn 2 F (dCons f1 (dCons f2 dNil)) ρ S = r := z_fn (w_cons h1 (w_cons h2 w_nil)) rfl hF
theorem z_lst (h : gs ρ S = some (.ok ds S1)) (hf : fits ds.length = true) : dLst gs ρ S = some (.ok (.lst ds) S1) := by
  rw [e_lst, h, bndl_ok, if_pos hf]
theorem z_tup (h : gs ρ S = some (.ok ds S1)) (hf : fits ds.length = true) : dTup gs ρ S = some (.ok (.tup ds) S1) := by
  rw [e_tup, h, bndl_ok, if_pos hf]
variable {st sa sb rest : SDen} {R : Option SRes}
theorem p_ifF (h : t ρ S = some (.ok (.bl false) S1)) (k : rest ρ S1 = R) : sSeq (sIf t sa sNil) rest ρ S = R := q_nx (S1 := S1) (by rw [e_if, h]; rfl) k
theorem p_ifE (h : t ρ S = some (.ok (.bl false) S1)) (h2 : sb ρ S1 = some (.nx ρ1 S2)) (k : rest ρ1 S2 = R) : sSeq (sIf t sa sb) rest ρ S = R := q_nx (S1 := S2) (by rw [e_if, h]; exact h2) k
theorem p_ifT (h : t ρ S = some (.ok (.bl true) S1)) (h2 : sa ρ S1 = some (.nx ρ1 S2)) (k : rest ρ1 S2 = R) : sSeq (sIf t sa sb) rest ρ S = R := q_nx (S1 := S2) (by rw [e_if, h]; exact h2) k
theorem z_not {p : Bool} (h1 : f ρ S = some (.ok (.bl p) S1)) : dNot f ρ S = some (.ok (.bl (!p)) S1) := by
  rw [e_not, h1, bndB_ok]
theorem z_tru {p : Bool} (h1 : f ρ S = some (.ok d S1)) (h : truth S1 d = some p) : dTru f ρ S = some (.ok (.bl p) S1) := by
  rw [e_tru, h1, bnd_ok, h]
  rfl
theorem loopS_cons {td : TDen} {g : SDen} {all : List D} {x : D} {xs : List D} {ρ ρ1 ρ2 : EnvD} {S S2 : Store} {R : Option SRes} (ht : td x ρ S = some ρ1) (hg : g ρ1 S = some (.nx ρ2 S2)) (hr : forLoop none all td g xs ρ2 S2 = R) : forLoop none all td g (x :: xs) ρ S = R := by
  rw [loop_cons, ht]
  simp only [hg]
  exact hr
theorem p_set {S1 : Store} {fe fo fi : Den} {v : D} {n j : Nat} {k : Int} {xs : List D} {S2 S3 : Store} (h1 : fe ρ S = some (.ok v S1)) (h2 : fo ρ S1 = some (.ok (.ref n) S2)) (h3 : fi ρ S2 = some (.ok (.int k) S3)) (hx : S3[n]? = some xs) (hj : ixN xs.length k = some j) : sStore fe fo fi ρ S = some (.nx ρ (S3.set n (xs.set j v))) := by
  unfold sStore
  simp only [h1, bndS_ok, h2, h3, hx, hj, Option.map_some]
theorem p_app {fo fe : Den} {ys : List D} (ho : fo ρ S = some (.ok (.ref n) S1)) (he : fe ρ S1 = some (.ok d S2)) (hn : S2[n]? = some ys) (hl : ys.length < 16777216) : dApp fo fe ρ S = some (.ok .non (S2.set n (ys ++ [d]))) := by
  rw [e_app, ho, bnd_ok]
  simp only [he, bnd_ok, hn, hl, if_true]
end
mutual
/-- the lists that may change in it are those below n -/
def low (n : Nat) : D → Bool
  | .tup xs => lows n xs
  | .lst xs => lows n xs
  | .err _ _ xs => lows n xs
  | .non => true
  | .bl _ => true
  | .int _ => true
  | .str _ => true
  | .scr _ => true
  | .rng _ _ => true
  | .fn _ => true
  | .ref k => decide (k < n)
  | .cau .. => false
def lows (n : Nat) : List D → Bool
  | [] => true
  | x :: xs => low n x && lows n xs
end
mutual
theorem map_low {n : Nat} {g : Nat → Option D} (hg : ∀ k < n, g k = some (.ref k)) : ∀ {d : D}, low n d = true → mapRef g d = some d
  | .tup xs, h => by simp only [low] at h; simp [mapRef, maps_low hg h]
  | .lst xs, h => by simp only [low] at h; simp [mapRef, maps_low hg h]
  | .err c ns xs, h => by simp only [low] at h; simp [mapRef, maps_low hg h]
  | .non, h => by simp [mapRef]
  | .bl _, h => by simp [mapRef]
  | .int _, h => by simp [mapRef]
  | .str _, h => by simp [mapRef]
  | .scr _, h => by simp [mapRef]
  | .rng _ _, h => by simp [mapRef]
  | .fn _, h => by simp [mapRef]
  | .ref k, h => by simp only [low, decide_eq_true_eq] at h; simp [mapRef, hg k h]
  | .cau .., h => by simp [low] at h
theorem maps_low {n : Nat} {g : Nat → Option D} (hg : ∀ k < n, g k = some (.ref k)) : ∀ {ds : List D}, lows n ds = true → mapRefs g ds = some ds
  | [], _ => by simp [mapRefs]
  | x :: xs, h => by
    simp only [lows, Bool.and_eq_true] at h
    simp [mapRefs, map_low hg h.1, maps_low hg h.2]
end
mutual
theorem low_closed {n : Nat} : ∀ {d : D}, closed d = true → low n d = true
  | .tup xs, h => by simp only [closed] at h; simp only [low]; exact lows_closed h
  | .lst xs, h => by simp only [closed] at h; simp only [low]; exact lows_closed h
  | .err c ns xs, h => by simp only [closed] at h; simp only [low]; exact lows_closed h
  | .non, h => by simp [low]
  | .bl _, h => by simp [low]
  | .int _, h => by simp [low]
  | .str _, h => by simp [low]
  | .scr _, h => by simp [low]
  | .rng _ _, h => by simp [low]
  | .fn _, h => by simp [low]
  | .ref k, h => by simp [closed] at h
  | .cau .., h => by simp [closed] at h
theorem lows_closed {n : Nat} : ∀ {ds : List D}, closeds ds = true → lows n ds = true
  | [], _ => by simp [lows]
  | x :: xs, h => by
    simp only [closeds, Bool.and_eq_true] at h
    simp only [lows, low_closed h.1, lows_closed h.2, Bool.and_self]
end
def tidy (n : Nat) (S : Store) : Prop := ∀ xs ∈ S, lows n xs = true
theorem mapRefss_low {n : Nat} {g : Nat → Option D} (hg : ∀ k < n, g k = some (.ref k)) : ∀ {S : Store}, tidy n S → mapRefss g S = some S
  | [], _ => by simp [mapRefss]
  | x :: xs, h => by simp [mapRefss, maps_low hg (h x List.mem_cons_self), mapRefss_low hg fun y hy => h y (List.mem_cons_of_mem _ hy)]
theorem fzg_low (S : Store) (n j : Nat) : ∀ k < n, fzg S n j k = some (.ref k) := fun k hk => by
  cases j <;> simp [fzg, hk]
theorem tidy.set {n : Nat} {S : Store} (h : tidy n S) {xs : List D} (hx : lows n xs = true) (k : Nat) : tidy n (S.set k xs) := fun ys hy => by
  rcases List.mem_or_eq_of_mem_set hy with z | z
  · exact h ys z
  · rw [z]; exact hx
theorem tidy.one {n : Nat} {xs : List D} (hx : closeds xs = true) : tidy n [xs] := fun ys hy => by
  rw [List.mem_singleton.mp hy]; exact lows_closed hx
/-- a def that changed what it was handed and made lists of its own -/
theorem fn_st {O : Op} {N : List Str} {g : SDen} [i : Is O N g] {ds : List D} {S S1 E : Store} {d : D} (h : g (startD N ds) S = some (.rt d (S1 ++ E))) (hl : S1.length = S.length) (ht : tidy S.length S1) (hc : closed d = true) : O ds S = some (.ok d S1) := by
  rw [i.eq]
  unfold fnOf
  rw [h]
  have e1 : (S1 ++ E).take S.length = S1 := by rw [← hl]; exact List.take_left' rfl
  have e2 : finS S.length (S1 ++ E) = some S1 := by
    unfold finS
    rw [e1]
    exact mapRefss_low (fzg_low _ _ _) ht
  simp only [fin, e1, e2, fz_closed hc, Option.map_some, Option.bind_some]
  split
  · rename_i z; rw [← e1, z]
  · rfl
/-- .. and gives back what it made, frozen -/
theorem fn_stf {O : Op} {N : List Str} {g : SDen} [i : Is O N g] {ds : List D} {S S1 E : Store} {d d' : D} (h : g (startD N ds) S = some (.rt d (S1 ++ E))) (hl : S1.length = S.length) (ht : tidy S.length S1) (hc : fz (S1 ++ E) S.length d = some d') : O ds S = some (.ok d' S1) := by
  rw [i.eq]
  unfold fnOf
  rw [h]
  have e1 : (S1 ++ E).take S.length = S1 := by rw [← hl]; exact List.take_left' rfl
  have e2 : finS S.length (S1 ++ E) = some S1 := by
    unfold finS
    rw [e1]
    exact mapRefss_low (fzg_low _ _ _) ht
  simp only [fin, e1, e2, hc, Option.map_some, Option.bind_some]
  split
  · rename_i z; rw [← e1, z]
  · rfl
end PD
namespace PD
open PySem PySem.Spec PyProof.Rows L2 My
mutual
theorem low_mono {n m : Nat} (h : n ≤ m) : ∀ {d : D}, low n d = true → low m d = true
  | .tup xs, k => by simp only [low] at k ⊢; exact lows_mono h k
  | .lst xs, k => by simp only [low] at k ⊢; exact lows_mono h k
  | .err c ns xs, k => by simp only [low] at k ⊢; exact lows_mono h k
  | .non, _ => by simp [low]
  | .bl _, _ => by simp [low]
  | .int _, _ => by simp [low]
  | .str _, _ => by simp [low]
  | .scr _, _ => by simp [low]
  | .rng _ _, _ => by simp [low]
  | .fn _, _ => by simp [low]
  | .ref k, z => by simp only [low, decide_eq_true_eq] at z ⊢; omega
  | .cau .., k => by simp [low] at k
theorem lows_mono {n m : Nat} (h : n ≤ m) : ∀ {ds : List D}, lows n ds = true → lows m ds = true
  | [], _ => by simp [lows]
  | x :: xs, k => by
    simp only [lows, Bool.and_eq_true] at k ⊢
    exact ⟨low_mono h k.1, lows_mono h k.2⟩
end
theorem tidy.mono {n m : Nat} {S : Store} (h : tidy n S) (hm : n ≤ m) : tidy m S := fun xs hx => lows_mono hm (h xs hx)
theorem tidy.app {n : Nat} {S E : Store} (h : tidy n S) (k : tidy n E) : tidy n (S ++ E) := fun xs hx => (List.mem_append.mp hx).elim (h xs) (k xs)
/-- a comprehension whose turns change what stands outside -/
theorem lc_st {own : List Nat} {f : Iens} {t : Tg} {elt : Den} {ρ : EnvD} {S S' : Store} {items acc : List D} (hf : f ρ S = some (.ok items none S)) (e : lcLoop own t dYes elt ρ S.length none items items (S ++ [[]]) = some (S' ++ [acc])) (hl : S'.length = S.length) (ht : tidy S.length S') (hc : closeds acc = true) : dLc own f t dYes elt ρ S = some (.ok (.lst acc) S') := by
  unfold dLc
  rw [hf]
  have e1 : (S' ++ [acc]).take S.length = S' := by rw [← hl]; exact List.take_left' rfl
  have e2 : finS S.length (S' ++ [acc]) = some S' := by
    unfold finS
    rw [e1]
    exact mapRefss_low (fzg_low _ _ _) ht
  have e3 : (S' ++ [acc])[S.length]? = some acc := by rw [← hl]; exact get_last _ _
  simp only [e, e1, e2, e3, fzs_closed hc, Option.map_some, Option.bind_some]
  split
  · rename_i z; rw [← e1, z]
  · rfl
end PD
namespace PD
open PySem PySem.Spec PyProof.Rows L2 My
/-- a def that makes lists of its own and gives them back frozen -/
theorem fn_rtF {O : Op} {N : List Str} {g : SDen} [i : Is O N g] {ds : List D} {S E : Store} {d d' : D} (h : g (startD N ds) S = some (.rt d (S ++ E))) (hc : fz (S ++ E) S.length d = some d') : O ds S = some (.ok d' S) := by
  rw [i.eq]
  unfold fnOf
  rw [h]
  simp [fin, hc]
end PD
set_option Elab.async false
set_option linter.all false
set_option maxRecDepth 100000
set_option maxHeartbeats 1000000
set_option exponentiation.threshold 20000
namespace My
open PySem PySem.Spec PyProof.Rows L2 PD
/-! ### more rules -/
section
variable {ρ ρ1 ρ2 : EnvD} {S S1 S2 : Store} {f g t : Den} {gs : Dens} {st sa sb rest : SDen} {R : Option SRes} {c : Str} {ns : List Str} {xs : List D} {d : D} {n : Nat}
theorem loop_cons_nxS {w : Option Nat} {td : TDen} {gb : SDen} {all : List D} {x : D} {ys : List D} (hw : w = none) (ht : td x ρ S = some ρ1) (hg : gb ρ1 S = some (.nx ρ2 S2)) (hr : forLoop none all td gb ys ρ2 S2 = R) : forLoop w all td gb (x :: ys) ρ S = R := by
  subst hw
  rw [loop_cons, ht]
  simp only [hg]
  exact hr
theorem loop_cons_rt {td : TDen} {gb : SDen} {all : List D} {x : D} {ys : List D} (ht : td x ρ S = some ρ1) (hg : gb ρ1 S = some (.rt d S2)) : forLoop none all td gb (x :: ys) ρ S = some (.rt d S2) := by
  rw [loop_cons, ht]
  simp only [hg]
theorem q_exc (h : f ρ S = some (.exc c ns xs S1)) : sSeq (sExpr f) rest ρ S = some (.exc c ns xs ρ S1) := by
  rw [e_seq, e_expr, h]
  rfl
theorem q_excSt (h : st ρ S = some (.exc c ns xs ρ1 S1)) : sSeq st rest ρ S = some (.exc c ns xs ρ1 S1) := by
  rw [e_seq, h]
theorem x_app {fo fe : Den} {ys : List D} (ho : fo ρ S = some (.ok (.ref n) S)) (he : fe ρ S = some (.ok d S)) (hn : S[n]? = some ys) (hl : ys.length < 16777216) : dApp fo fe ρ S = some (.ok .non (S.set n (ys ++ [d]))) := by
  rw [e_app, ho, bnd_ok]
  simp only [he, bnd_ok, hn, hl, if_true]
theorem x_cut {fa : Den} {lo hi : Option Den} {a : D} {i j : Option Int} (ha : fa ρ S = some (.ok a S)) (hlo : match lo, i with | none, none => True | some fl, some k => fl ρ S = some (.ok (.int k) S) | _, _ => False) (hhi : match hi, j with | none, none => True | some fl, some k => fl ρ S = some (.ok (.int k) S) | _, _ => False) :
    dCut fa lo hi ρ S = oCut a i j S := by
  unfold dCut
  rw [ha, bnd_ok]
  cases lo <;> cases i <;> simp only [dPart] at hlo ⊢ <;> cases hi <;> cases j <;> simp only [dPart] at hhi ⊢
  · rw [hhi, bnd_ok]
  · rw [hlo, bnd_ok]
  · rw [hlo, bnd_ok]
    show bnd _ _ = _
    rw [hhi, bnd_ok]
theorem x_c0 {F : Op} {r : Option Res} (hF : F [] S = r) : dFn 0 F dNil ρ S = r := by
  rw [e_fn, e_nilA, bndl_ok]
  exact (if_pos rfl).trans hF
end
theorem q_forR {ρ : EnvD} {S S1 S2 : Store} {fi : Iens} {td : TDen} {st rest : SDen} {items : List D} {w : Option Nat} {d : D} (h : fi ρ S = some (.ok items w S1)) (hl : forLoop w items td st items ρ S1 = some (.rt d S2)) : sSeq (sFor fi td st) rest ρ S = some (.rt d S2) := q_rt ((for_of h).trans hl)
theorem x_notF {ρ : EnvD} {S : Store} {f : Den} (h1 : f ρ S = some (.ok (.bl false) S)) : dNot (dTru f) ρ S = some (.ok (.bl true) S) := x_not (p := false) (x_tru h1 rfl)
theorem ixLst {xs : List D} {i : Nat} {d : D} (h : xs[i]? = some d) (S : Store) : oIx (.lst xs) (.int (i : Nat)) S = some (.ok d S) := by
  have hl := (List.getElem?_eq_some_iff.mp h).1
  have h2 : ((i : Nat) : Int) < (xs.length : Int) := by omega
  have h3 : (0 : Int) ≤ ((i : Nat) : Int) := by omega
  simp only [oIx, asSeq, atI, ixN, h2, h3, if_true, Option.bind_some, Int.toNat_natCast, h, Option.map_some]
theorem ixTup {xs : List D} {i : Nat} {d : D} (h : xs[i]? = some d) (S : Store) : oIx (.tup xs) (.int (i : Nat)) S = some (.ok d S) := by
  have hl := (List.getElem?_eq_some_iff.mp h).1
  have h2 : ((i : Nat) : Int) < (xs.length : Int) := by omega
  have h3 : (0 : Int) ≤ ((i : Nat) : Int) := by omega
  simp only [oIx, asSeq, atI, ixN, h2, h3, if_true, Option.bind_some, Int.toNat_natCast, h, Option.map_some]
theorem ixRef {S : Store} {n : Nat} {xs : List D} {i : Nat} {d : D} (hn : S[n]? = some xs) (h : xs[i]? = some d) : oIx (.ref n) (.int (i : Nat)) S = some (.ok d S) := by
  have hl := (List.getElem?_eq_some_iff.mp h).1
  have h2 : ((i : Nat) : Int) < (xs.length : Int) := by omega
  have h3 : (0 : Int) ≤ ((i : Nat) : Int) := by omega
  simp only [oIx, asSeq, hn, atI, ixN, h2, h3, if_true, Option.bind_some, Int.toNat_natCast, h, Option.map_some]
theorem ixRefLast {S : Store} {n k : Nat} {xs : List D} {d : D} (hn : S[n]? = some xs) (hk : xs.length = k + 1) (h : xs[k]? = some d) : oIx (.ref n) (.int (-1)) S = some (.ok d S) := by
  have h1 : ¬ (0 : Int) ≤ -1 := by decide
  have h2 : -(xs.length : Int) ≤ -1 := by omega
  have h3 : (-1 + (xs.length : Int)).toNat = k := by omega
  simp only [oIx, asSeq, hn, atI, ixN, h1, h2, if_true, if_false, Option.bind_some, h3, h, Option.map_some]
theorem rgD_map (n : Nat) : rgD 0 n = (List.range n).map fun k => D.int (k : Nat) := by
  unfold rgD
  exact List.map_congr_left fun i _ => by simp
theorem o_eqS {x y : Str} (hx : PyData.strOk x = true) (hy : PyData.strOk y = true) (S : Store) : oEq (.str x) (.str y) S = some (.ok (.bl (x == y)) S) := oEq_of (eqD_str hx hy)
theorem o_neS {x y : Str} (hx : PyData.strOk x = true) (hy : PyData.strOk y = true) (S : Store) : oNe (.str x) (.str y) S = some (.ok (.bl (!(x == y))) S) := oNe_of (eqD_str hx hy)
theorem ixAny {S : Store} {x : D} {xs : List Int} (h : asSeq S x = some (xs.map .int)) {j : Nat} (hj : j < xs.length) : oIx x (.int (j : Nat)) S = some (.ok (.int (gt xs j)) S) := by
  have e : (xs.map D.int)[j]? = some (.int (gt xs j)) := by
    rw [List.getElem?_map, List.getElem?_eq_getElem hj, gt_get hj]
    rfl
  have h2 : ((j : Nat) : Int) < ((xs.map D.int).length : Int) := by simp; omega
  have h3 : (0 : Int) ≤ ((j : Nat) : Int) := by omega
  have key : (match asSeq S x with | some ys => (atI ys ((j : Nat) : Int)).map fun d => Res.ok d S | none => none) = some (.ok (.int (gt xs j)) S) := by
    rw [h]
    simp only [atI, ixN, h2, h3, if_true, Option.bind_some, Int.toNat_natCast, e, Option.map_some]
  cases x with
  | str z => simp [asSeq] at h
  | _ => exact key
/-- a loop whose turns all go on, with what stands of the names -/
theorem loop_inv {P : EnvD → Prop} {td : TDen} {g : SDen} {S : Store} (all : List D) : ∀ (xs : List D) (ρ : EnvD), (∀ x ∈ xs, ∀ ρ, P ρ → ∃ ρ1 ρ2, td x ρ S = some ρ1 ∧ g ρ1 S = some (.nx ρ2 S) ∧ P ρ2) → P ρ → ∃ ρ', forLoop none all td g xs ρ S = some (.nx ρ' S) ∧ P ρ'
  | [], ρ, _, h => ⟨ρ, rfl, h⟩
  | x :: xs, ρ, hx, h => by
    obtain ⟨ρ1, ρ2, e1, e2, h2⟩ := hx x List.mem_cons_self ρ h
    obtain ⟨ρ', e, h'⟩ := loop_inv all xs ρ2 (fun y hy => hx y (List.mem_cons_of_mem _ hy)) h2
    exact ⟨ρ', loop_cons_nx e1 e2 e, h'⟩
/-- a loop in a block -/
theorem q_forI {P : EnvD → Prop} {fi : Iens} {td : TDen} {st rest : SDen} {ρ : EnvD} {S : Store} {items : List D} {R : Option SRes} (h : fi ρ S = some (.ok items none S)) (hp : P ρ) (hx : ∀ x ∈ items, ∀ ρ, P ρ → ∃ ρ1 ρ2, td x ρ S = some ρ1 ∧ st ρ1 S = some (.nx ρ2 S) ∧ P ρ2) (k : ∀ ρ', P ρ' → rest ρ' S = R) : sSeq (sFor fi td st) rest ρ S = R := by
  obtain ⟨ρ', e, hp'⟩ := loop_inv (P := P) (td := td) (g := st) (S := S) items items ρ hx hp
  exact q_nx ((for_of h).trans e) (k ρ' hp')
theorem o_geI (i j : Int) (S : Store) : oGe (.int i) (.int j) S = some (.ok (.bl (decide (j ≤ i))) S) := rfl
theorem o_gtI (i j : Int) (S : Store) : oGt (.int i) (.int j) S = some (.ok (.bl (decide (j < i))) S) := rfl
theorem o_ltI (i j : Int) (S : Store) : oLt (.int i) (.int j) S = some (.ok (.bl (decide (i < j))) S) := rfl
theorem o_leI (i j : Int) (S : Store) : oLe (.int i) (.int j) S = some (.ok (.bl (decide (i ≤ j))) S) := rfl
/-- a comprehension that reads lists which may change -/
theorem lcE_range {ρ : EnvD} {S : Store} {fi : Iens} {elt : Den} (j n : Nat) (f : Nat → Int) (hf : fi ρ S = some (.ok (rgD 0 n) none S)) (he : ∀ i < n, ∀ acc : List D, elt ((wipeD ρ [j]).set j (some (.int (i : Nat)))) (S ++ [acc]) = some (.ok (.int (f i)) (S ++ [acc]))) (hn : n ≤ 16777216) : dLc [j] fi (.one j) dYes elt ρ S = some (.ok (.lst (((List.range n).map f).map .int)) S) := by
  have loop : ∀ (k i : Nat) (acc : List D), i + k ≤ n → acc.length + k ≤ 16777216 → lcLoop [j] (.one j) dYes elt ρ S.length none (rgD 0 n) ((List.range' i k).map fun i => D.int (i : Nat)) (S ++ [acc]) = some (S ++ [acc ++ (List.range' i k).map fun i => D.int (f i)]) := fun k => by
    induction k with
    | zero => intro i acc _ _; simp [lcLoop]
    | succ k ih =>
      intro i acc hi ha
      rw [List.range'_succ, List.map_cons, List.map_cons]
      simp only [lcLoop, Tg.go, dYes, if_true, he i (by omega), get_last, ckOf_none, and_true, set_last]
      rw [if_pos (by omega), ih (i + 1) (acc ++ [D.int (f i)]) (by omega) (by simp; omega), List.append_assoc]
      rfl
  have e := loop n 0 [] (by omega) (by simpa using hn)
  rw [← List.range_eq_range', ← rgD_map, List.nil_append] at e
  have cl : closeds ((List.range n).map fun i => D.int (f i)) = true := closeds_ints _ _
  unfold dLc
  rw [hf]
  simp only [e, get_last, List.take_left', fzs_closed cl]
  simp
/-- how many pass a test -/
theorem count_lc {ρ : EnvD} {S : Store} {fi : Iens} {cnd : Den} (j n : Nat) (p : Nat → Bool) (hf : fi ρ S = some (.ok (rgD 0 n) none S)) (hn : n ≤ 1000) (hj : j < ρ.length) (hc : ∀ i < n, ∀ T, cnd ((wipeD ρ [j]).set j (some (.int (i : Nat)))) T = some (.ok (.bl (p i)) T)) :
    dBin oGt (dCall oLen (dCons (dLc [j] fi (.one j) cnd (dVar j)) (dNil))) (dC (.int 0)) ρ S = some (.ok (.bl (decide (∃ i, i < n ∧ p i = true))) S) := by
  have l := lc_idxF (own := [j]) (t := .one j) (elt := dVar j) (cnd := cnd) (f := fi) (ρ := ρ) (S := S) (List.range n) (fun i => D.int (i : Nat)) (fun i => D.int (i : Nat)) p (fun i => (wipeD ρ [j]).set j (some (.int (i : Nat)))) (by rw [hf, rgD_map]) (fun _ _ => rfl) (fun i hi V => hc i (List.mem_range.mp hi) V) (fun i hi _ V => by
    have : ((wipeD ρ [j]).set j (some (.int (i : Nat))))[j]? = some (some (.int (i : Nat))) := by
      show ((ρ.set j none).set j _)[j]? = _
      rw [List.set_set, List.getElem?_set_self hj]
    rw [e_var, this]) (by rw [List.length_range]; omega) (closeds_ints _ _)
  refine x_bin (x_c1 l (e_lenL _ S)) rfl ((o_gtI _ _ S).trans ?_)
  congr 3
  rw [List.length_map]
  by_cases h : ∃ i, i < n ∧ p i = true
  · rw [decide_eq_true h, decide_eq_true]
    obtain ⟨i, hi, hp⟩ := h
    have : i ∈ (List.range n).filter p := List.mem_filter.mpr ⟨List.mem_range.mpr hi, hp⟩
    have := List.length_pos_of_mem this
    omega
  · rw [decide_eq_false h, decide_eq_false]
    intro z
    have z : 0 < ((List.range n).filter p).length := by omega
    obtain ⟨i, hi⟩ := List.exists_mem_of_length_pos z
    obtain ⟨h1, h2⟩ := List.mem_filter.mp hi
    exact h ⟨i, List.mem_range.mp h1, h2⟩
theorem z_neg {f : Den} {ρ : EnvD} {S S1 : Store} {i : Int} (h : f ρ S = some (.ok (.int i) S1)) : dUn oNeg f ρ S = some (.ok (.int (-i)) S1) := by
  unfold dUn
  rw [h]
  rfl
theorem range2_of {f g : Den} {ρ : EnvD} {S : Store} {i j : Nat} (h1 : f ρ S = some (.ok (.int (i : Nat)) S)) (h2 : g ρ S = some (.ok (.int (j : Nat)) S)) (hi : i ≤ 1000) (hj : j ≤ 1000) : dRange2 f g ρ S = some (.ok (rgD (i : Nat) (j - i)) none S) := by
  unfold dRange2
  rw [h1, bndi_ok, h2, bndi_ok]
  simp only
  rw [if_pos ⟨by omega, by omega, by omega, by omega⟩]
  rw [show (((j : Nat) : Int) - (i : Nat)).toNat = j - i by omega]
theorem rgD_from (i j : Nat) : rgD (i : Nat) j = (List.range' i j).map fun k => D.int (k : Nat) := by
  unfold rgD
  rw [List.range'_eq_map_range, List.map_map]
  exact List.map_congr_left fun k _ => by simp
theorem none_lc {ρ : EnvD} {S : Store} {fi : Iens} {cnd : Den} (j n : Nat) (hf : fi ρ S = some (.ok (rgD 0 n) none S)) (hc : ∀ i < n, ∀ acc : List D, cnd ((wipeD ρ [j]).set j (some (.int (i : Nat)))) (S ++ [acc]) = some (.ok (.bl false) (S ++ [acc]))) :
    dBin oGt (dCall oLen (dCons (dLc [j] fi (.one j) cnd (dVar j)) (dNil))) (dC (.int 0)) ρ S = some (.ok (.bl false) S) := by
  have loop : ∀ (k i : Nat) (acc : List D), i + k ≤ n → lcLoop [j] (.one j) cnd (dVar j) ρ S.length none (rgD 0 n) ((List.range' i k).map fun i => D.int (i : Nat)) (S ++ [acc]) = some (S ++ [acc]) := fun k => by
    induction k with
    | zero => intro i acc _; simp [lcLoop]
    | succ k ih =>
      intro i acc hi
      rw [List.range'_succ, List.map_cons]
      simp only [lcLoop, Tg.go, hc i (by omega), Bool.false_eq_true, if_false]
      rw [if_pos (show ckOf none _ _ from trivial)]
      exact ih (i + 1) acc (by omega)
  have e := loop n 0 [] (by omega)
  rw [← List.range_eq_range', ← rgD_map] at e
  have l : dLc [j] fi (.one j) cnd (dVar j) ρ S = some (.ok (.lst []) S) := by
    have cl : closeds ([] : List D) = true := rfl
    unfold dLc
    rw [hf]
    simp only [e, get_last, List.take_left', fzs_closed cl]
    simp
  exact x_bin (x_c1 l (e_lenL _ S)) rfl rfl
theorem get_two (S : Store) (X acc : List D) : (S ++ [X] ++ [acc])[S.length]? = some X := by simp
section
variable {ρ : EnvD} {S : Store} {fi : Iens} {elt : Den}
theorem lcI_map1 (j : Nat) (xs : List Int) (f : Int → Int) (hf : fi ρ S = some (.ok (xs.map .int) none S)) (he : ∀ x ∈ xs, ∀ T, elt ((wipeD ρ [j]).set j (some (.int x))) T = some (.ok (.int (f x)) T)) (hn : xs.length ≤ 16777216) : dLc [j] fi (.one j) dYes elt ρ S = some (.ok (.lst ((xs.map f).map .int)) S) := by
  have l := lc_map (own := [j]) (t := .one j) (elt := elt) (items := xs.map .int) (fun d => match d with | .int i => .int (f i) | _ => .non) (fun d => (wipeD ρ [j]).set j (some d)) hf (fun _ _ => rfl) (fun d hd T => by
    obtain ⟨x, hx, rfl⟩ := List.mem_map.mp hd
    exact he x hx T) (by rw [List.length_map]; exact hn) (by simp [closeds_all, closed])
  rw [l, List.map_map, List.map_map]
  rfl
theorem lcI_range1 (j n : Nat) (f : Nat → Int) (hf : fi ρ S = some (.ok (rgD 0 n) none S)) (he : ∀ i < n, ∀ T, elt ((wipeD ρ [j]).set j (some (.int (i : Nat)))) T = some (.ok (.int (f i)) T)) (hn : n ≤ 16777216) : dLc [j] fi (.one j) dYes elt ρ S = some (.ok (.lst (((List.range n).map f).map .int)) S) := by
  have l := lc_range (own := [j]) (t := .one j) (elt := elt) n (fun i => .int (f i)) (fun i => (wipeD ρ [j]).set j (some (.int (i : Nat)))) hf (fun _ _ => rfl) he hn (closeds_ints _ _)
  rw [l, List.map_map]
  rfl
end
end My
set_option Elab.async false
set_option linter.all false
set_option maxRecDepth 100000
set_option maxHeartbeats 1000000
set_option exponentiation.threshold 20000
namespace My
open PySem PySem.Spec PyProof.Rows L2 PD
/-! ### lists of lists of numbers that may change -/
abbrev IL (xs : List Int) : D := .lst (xs.map .int)
def lls (C : List (List Int)) : D := .lst (C.map fun c => .lst (c.map .int))
section
variable {C : List (List Int)} {l : Nat}
theorem lls_range (hl : C.length = l) : lls C = .lst ((List.range l).map fun t => .lst ((C.getD t []).map .int)) := by
  unfold lls
  congr 1
  refine List.ext_getElem (by simp [hl]) fun i h1 h2 => ?_
  simp only [List.length_map] at h1
  simp [List.getD, List.getElem?_eq_getElem h1]
theorem closed_lls (C : List (List Int)) : closed (lls C) = true := by
  simp only [lls, closed, closeds_all]
  refine List.all_eq_true.mpr fun x hx => ?_
  obtain ⟨c, _, rfl⟩ := List.mem_map.mp hx
  simp only [closed, closeds_map_int]
theorem ix_lls {t : Nat} (h : t < C.length) (S : Store) : oIx (lls C) (.int (t : Nat)) S = some (.ok (.lst ((C.getD t []).map .int)) S) := by
  refine ixLst ?_ S
  rw [List.getElem?_map, List.getElem?_eq_getElem h]
  simp [List.getD, List.getElem?_eq_getElem h]
theorem len_lls (C : List (List Int)) (S : Store) : oLen [lls C] S = some (.ok (.int (C.length : Nat)) S) := by
  unfold lls
  rw [e_lenL, List.length_map]
end
theorem gt_at2 (C : List (List Int)) (t i : Nat) : gt (C.getD t []) i = at2 C t i := rfl
theorem gt_set {xs : List Int} {j i : Nat} {z : Int} (hj : j < xs.length) : gt (xs.set j z) i = if i = j then z else gt xs i := by
  by_cases h : i = j
  · subst h
    rw [if_pos rfl, gt_get (by simpa using hj)]
    exact List.getElem_set_self ..
  · rw [if_neg h]
    by_cases hi : i < xs.length
    · rw [gt_get (by simpa using hi), gt_get hi]
      exact List.getElem_set_ne (fun z => h z.symm) _
    · rw [gt_out (by simp; omega), gt_out (by omega)]
def refs (a k : Nat) : List D := (List.range k).map fun i => D.ref (a + 1 + i)
def ST (S : Store) (Ns : List (List Int)) : Store := S ++ (refs S.length Ns.length :: Ns.map fun x => x.map D.int)
theorem ST_len (S : Store) (Ns : List (List Int)) : (ST S Ns).length = S.length + 1 + Ns.length := by simp [ST]; omega
theorem ST_rows (S E : Store) (Ns : List (List Int)) : (ST S Ns ++ E)[S.length]? = some (refs S.length Ns.length) := by
  unfold ST
  rw [List.append_assoc, List.getElem?_append_right (Nat.le_refl _), Nat.sub_self]
  rfl
theorem ST_nums (S E : Store) (Ns : List (List Int)) (i : Nat) (hi : i < Ns.length) : (ST S Ns ++ E)[S.length + 1 + i]? = some (Ns[i].map D.int) := by
  unfold ST
  rw [List.append_assoc, List.getElem?_append_right (by omega), show S.length + 1 + i - S.length = i + 1 by omega, List.cons_append, List.getElem?_cons_succ, List.getElem?_append_left (by simpa using hi), List.getElem?_map, List.getElem?_eq_getElem hi]
  rfl
theorem ST_snoc (S : Store) (Ns : List (List Int)) (x : List Int) : (ST S Ns ++ [x.map D.int]).set S.length (refs S.length Ns.length ++ [.ref (ST S Ns).length]) = ST S (Ns ++ [x]) := by
  have e : refs S.length Ns.length ++ [.ref (ST S Ns).length] = refs S.length (Ns ++ [x]).length := by
    rw [ST_len]
    simp only [refs, List.length_append, List.length_cons, List.length_nil, List.range_succ, List.map_append, List.map_cons, List.map_nil]
  rw [e]
  unfold ST
  rw [List.append_assoc, List.set_append_right _ _ (Nat.le_refl _), Nat.sub_self, List.cons_append, List.set_cons_zero, List.map_append]
  rfl
theorem ST_set {S : Store} {Ns : List (List Int)} {k : Nat} {x : List D} (hk : k < S.length) : (ST S Ns).set k x = ST (S.set k x) Ns := by
  unfold ST
  rw [List.set_append_left _ _ hk, List.length_set]
theorem ST_get {S : Store} {Ns : List (List Int)} {k : Nat} {x : List D} (h : S[k]? = some x) : (ST S Ns)[k]? = some x := by
  unfold ST
  rw [List.getElem?_append_left (List.getElem?_eq_some_iff.mp h).1]
  exact h
theorem ST_row {S : Store} {Ns : List (List Int)} {i : Nat} {x : List Int} (hi : i < Ns.length) : (ST S Ns).set (S.length + 1 + i) (x.map .int) = ST S (Ns.set i x) := by
  unfold ST
  rw [List.set_append_right _ _ (by omega), show S.length + 1 + i - S.length = i + 1 by omega, List.set_cons_succ, List.length_set, List.map_set]
theorem ST_rows0 (S : Store) (Ns : List (List Int)) : (ST S Ns)[S.length]? = some (refs S.length Ns.length) := by
  have := ST_rows S [] Ns
  rwa [List.append_nil] at this
theorem ST_nums0 (S : Store) (Ns : List (List Int)) (i : Nat) (hi : i < Ns.length) : (ST S Ns)[S.length + 1 + i]? = some ((Ns.getD i []).map D.int) := by
  have := ST_nums S [] Ns i hi
  rw [List.append_nil] at this
  rw [this]
  simp [List.getD, List.getElem?_eq_getElem hi]
theorem refs_get {a k i : Nat} (hi : i < k) : (refs a k)[i]? = some (.ref (a + 1 + i)) := by
  unfold refs
  rw [List.getElem?_map, List.getElem?_range hi]
  rfl
/-- the rows, frozen -/
theorem fz_ST (S : Store) (Ns : List (List Int)) : fz (ST S Ns) S.length (.ref S.length) = some (lls Ns) := by
  have one : ∀ i < Ns.length, fzg (ST S Ns) S.length 2 (S.length + 1 + i) = some (.lst ((Ns.getD i []).map .int)) := fun i hi => by
    simp only [fzg]
    rw [if_neg (by omega), ST_nums0 S Ns i hi]
    simp only [maps_closed (closeds_map_int _), Option.map_some]
  have all : ∀ (k j : Nat), j + k = Ns.length → mapRefs (fzg (ST S Ns) S.length 2) ((List.range' j k).map fun i => D.ref (S.length + 1 + i)) = some ((List.range' j k).map fun i => D.lst ((Ns.getD i []).map .int)) := fun k => by
    induction k with
    | zero => intro j _; simp [mapRefs]
    | succ k ih =>
      intro j hj
      rw [List.range'_succ, List.map_cons, List.map_cons]
      simp only [mapRefs, mapRef, one j (by omega), ih (j + 1) (by omega)]
  have e : fzg (ST S Ns) S.length 3 S.length = some (lls Ns) := by
    show (if S.length < S.length then _ else _) = _
    rw [if_neg (by omega), ST_rows0]
    show (mapRefs (fzg (ST S Ns) S.length 2) (refs S.length Ns.length)).map D.lst = _
    have := all Ns.length 0 (by omega)
    rw [← List.range_eq_range'] at this
    rw [show refs S.length Ns.length = (List.range Ns.length).map fun i => D.ref (S.length + 1 + i) from rfl, this, lls_range rfl]
    rfl
  simp only [fz, mapRef, e]
theorem at2_set {Ns : List (List Int)} {k q i : Nat} {xs : List Int} (hk : k < Ns.length) : at2 (Ns.set k xs) q i = if q = k then gt xs i else at2 Ns q i := by
  unfold at2
  by_cases e : q = k
  · subst e
    rw [if_pos rfl]
    simp [List.getD, hk]
  · rw [if_neg e]
    simp [List.getD, List.getElem?_set_ne (Ne.symm e)]
theorem st_int {ρ : EnvD} {S : Store} {fe fo fi : Den} {z : Int} {j : Nat} {xs : List Int} (he : fe ρ (S ++ [xs.map D.int]) = some (.ok (.int z) (S ++ [xs.map D.int]))) (ho : fo ρ (S ++ [xs.map D.int]) = some (.ok (.ref S.length) (S ++ [xs.map D.int]))) (hi : fi ρ (S ++ [xs.map D.int]) = some (.ok (.int (j : Nat)) (S ++ [xs.map D.int]))) (hj : j < xs.length) : sStore fe fo fi ρ (S ++ [xs.map D.int]) = some (.nx ρ (S ++ [(xs.set j z).map D.int])) := by
  have := s_store he ho hi (get_last _ _) (j := j) (by
    simp only [ixN]
    rw [if_pos (by omega), if_pos (by rw [List.length_map]; omega), Int.toNat_natCast])
  rw [set_last] at this
  rw [this, List.map_set]
section
variable {own : List Nat} {f : Iens} {t : Tg} {elt : Den} {ρ : EnvD} {S : Store} {items : List D}
/-- a comprehension over a list that may change, whose turns read lists that may change -/
theorem lcWE_map {n : Nat} (h : D → D) (ρ' : D → EnvD) (hf : f ρ S = some (.ok items (some n) S)) (hk : S[n]? = some items) (ht : ∀ x ∈ items, t.go x (wipeD ρ own) = some (ρ' x)) (he : ∀ x ∈ items, ∀ acc : List D, elt (ρ' x) (S ++ [acc]) = some (.ok (h x) (S ++ [acc]))) (hl : items.length ≤ 16777216) (cl : closeds (items.map h) = true) : dLc own f t dYes elt ρ S = some (.ok (.lst (items.map h)) S) := by
  have loop : ∀ (xs acc : List D), (∀ x ∈ xs, x ∈ items) → acc.length + xs.length ≤ 16777216 → lcLoop own t dYes elt ρ S.length (some n) items xs (S ++ [acc]) = some (S ++ [acc ++ xs.map h]) := fun xs => by
    induction xs with
    | nil => intro acc _ _; simp [lcLoop]
    | cons x xs ih =>
      intro acc hx hl
      have hn : n < S.length := (List.getElem?_eq_some_iff.mp hk).1
      simp only [List.length_cons] at hl
      have xi := hx x List.mem_cons_self
      simp only [lcLoop, ht x xi, dYes, if_true, he x xi acc, get_last, set_last]
      have ck : ckOf (some n) items (S ++ [acc ++ [h x]]) := by
        show (S ++ [acc ++ [h x]])[n]? = some items
        rw [List.getElem?_append_left hn]
        exact hk
      rw [if_pos ⟨by omega, by rw [set_last]; exact ck⟩]
      have := ih (acc ++ [h x]) (fun y hy => hx y (List.mem_cons_of_mem _ hy)) (by simp; omega)
      rw [this]
      simp
  have e := loop items [] (fun _ h => h) (by simpa using hl)
  unfold dLc
  rw [hf]
  simp only [e, List.nil_append, get_last, List.take_left', fzs_closed cl]
  simp
end
end My
set_option Elab.async false
set_option linter.all false
set_option maxRecDepth 100000
set_option maxHeartbeats 4000000
namespace My
open PySem PySem.Spec PyProof.Rows L2 PD
/-! printed by denprint.py -/
structure Facts (K : PySem.W.Frag) (mg : Str → Option Value) : Prop where
  g__law_share : mg "_law_share" = some (.ref (He.ga K "_law_share"))
  F__law_share : ∃ fd, FunD K "_law_share" "_law_share" (defArgs (top 48)) (defBody (top 48)) (defScope (top 48)) [] [] (He.ga K "_law_share") fd
  g__law_dues : mg "_law_dues" = some (.ref (He.ga K "_law_dues"))
  F__law_dues : ∃ fd, FunD K "_law_dues" "_law_dues" (defArgs (top 49)) (defBody (top 49)) (defScope (top 49)) [] [] (He.ga K "_law_dues") fd
  g__law_is_led : mg "_law_is_led" = some (.ref (He.ga K "_law_is_led"))
  F__law_is_led : ∃ fd, FunD K "_law_is_led" "_law_is_led" (defArgs (top 50)) (defBody (top 50)) (defScope (top 50)) [] [] (He.ga K "_law_is_led") fd
  g__law_gcd : mg "_law_gcd" = some (.ref (He.ga K "_law_gcd"))
  F__law_gcd : ∃ fd, FunD K "_law_gcd" "_law_gcd" (defArgs (top 43)) (defBody (top 43)) (defScope (top 43)) [] [] (He.ga K "_law_gcd") fd
  g__law_lowest : mg "_law_lowest" = some (.ref (He.ga K "_law_lowest"))
  F__law_lowest : ∃ fd, FunD K "_law_lowest" "_law_lowest" (defArgs (top 44)) (defBody (top 44)) (defScope (top 44)) [] [] (He.ga K "_law_lowest") fd
  g_is_integer : mg "is_integer" = some (.ref (He.ga K "is_integer"))
  F_is_integer : ∃ fd, FunD K "is_integer" "is_integer" (defArgs (top 2)) (defBody (top 2)) (defScope (top 2)) [] [] (He.ga K "is_integer") fd
  g_is_bottom : mg "is_bottom" = some (.ref (He.ga K "is_bottom"))
  F_is_bottom : ∃ fd, FunD K "is_bottom" "is_bottom" (defArgs (top 5)) (defBody (top 5)) (defScope (top 5)) [] [] (He.ga K "is_bottom") fd
  g_is_pair : mg "is_pair" = some (.ref (He.ga K "is_pair"))
  F_is_pair : ∃ fd, FunD K "is_pair" "is_pair" (defArgs (top 6)) (defBody (top 6)) (defScope (top 6)) [] [] (He.ga K "is_pair") fd
  g_is_quotient : mg "is_quotient" = some (.ref (He.ga K "is_quotient"))
  F_is_quotient : ∃ fd, FunD K "is_quotient" "is_quotient" (defArgs (top 7)) (defBody (top 7)) (defScope (top 7)) [] [] (He.ga K "is_quotient") fd
  g_is_amount : mg "is_amount" = some (.ref (He.ga K "is_amount"))
  F_is_amount : ∃ fd, FunD K "is_amount" "is_amount" (defArgs (top 8)) (defBody (top 8)) (defScope (top 8)) [] [] (He.ga K "is_amount") fd
  g_require : mg "require" = some (.ref (He.ga K "require"))
  F_require : ∃ fd, FunD K "require" "require" (defArgs (top 14)) (defBody (top 14)) (defScope (top 14)) [] [] (He.ga K "require") fd
  g_require_quotients : mg "require_quotients" = some (.ref (He.ga K "require_quotients"))
  F_require_quotients : ∃ fd, FunD K "require_quotients" "require_quotients" (defArgs (top 19)) (defBody (top 19)) (defScope (top 19)) [] [] (He.ga K "require_quotients") fd
  g_is_less : mg "is_less" = some (.ref (He.ga K "is_less"))
  F_is_less : ∃ fd, FunD K "is_less" "is_less" (defArgs (top 20)) (defBody (top 20)) (defScope (top 20)) [] [] (He.ga K "is_less") fd
  g_is_die : mg "is_die" = some (.ref (He.ga K "is_die"))
  F_is_die : ∃ fd, FunD K "is_die" "is_die" (defArgs (top 29)) (defBody (top 29)) (defScope (top 29)) [] [] (He.ga K "is_die") fd
  g_are_dice : mg "are_dice" = some (.ref (He.ga K "are_dice"))
  F_are_dice : ∃ fd, FunD K "are_dice" "are_dice" (defArgs (top 38)) (defBody (top 38)) (defScope (top 38)) [] [] (He.ga K "are_dice") fd
  g_is_number : mg "is_number" = some (.ref (He.ga K "is_number"))
  F_is_number : ∃ fd, FunD K "is_number" "is_number" (defArgs (top 3)) (defBody (top 3)) (defScope (top 3)) [] [] (He.ga K "is_number") fd
  g_is_brink : mg "is_brink" = some (.ref (He.ga K "is_brink"))
  F_is_brink : ∃ fd, FunD K "is_brink" "is_brink" (defArgs (top 22)) (defBody (top 22)) (defScope (top 22)) [] [] (He.ga K "is_brink") fd
  g_are_brinks : mg "are_brinks" = some (.ref (He.ga K "are_brinks"))
  F_are_brinks : ∃ fd, FunD K "are_brinks" "are_brinks" (defArgs (top 23)) (defBody (top 23)) (defScope (top 23)) [] [] (He.ga K "are_brinks") fd
  g_is_brinks : mg "is_brinks" = some (.ref (He.ga K "is_brinks"))
  F_is_brinks : ∃ fd, FunD K "is_brinks" "is_brinks" (defArgs (top 24)) (defBody (top 24)) (defScope (top 24)) [] [] (He.ga K "is_brinks") fd
  g_are_coins : mg "are_coins" = some (.ref (He.ga K "are_coins"))
  F_are_coins : ∃ fd, FunD K "are_coins" "are_coins" (defArgs (top 26)) (defBody (top 26)) (defScope (top 26)) [] [] (He.ga K "are_coins") fd
  g_is_coins : mg "is_coins" = some (.ref (He.ga K "is_coins"))
  F_is_coins : ∃ fd, FunD K "is_coins" "is_coins" (defArgs (top 27)) (defBody (top 27)) (defScope (top 27)) [] [] (He.ga K "is_coins") fd
  g_next_by : mg "next_by" = some (.ref (He.ga K "next_by"))
  F_next_by : ∃ fd, FunD K "next_by" "next_by" (defArgs (top 36)) (defBody (top 36)) (defScope (top 36)) [] [] (He.ga K "next_by") fd
  g_is_below : mg "is_below" = some (.ref (He.ga K "is_below"))
  F_is_below : ∃ fd, FunD K "is_below" "is_below" (defArgs (top 4)) (defBody (top 4)) (defScope (top 4)) [] [] (He.ga K "is_below") fd
  g_size_of : mg "size_of" = some (.ref (He.ga K "size_of"))
  F_size_of : ∃ fd, FunD K "size_of" "size_of" (defArgs (top 15)) (defBody (top 15)) (defScope (top 15)) [] [] (He.ga K "size_of") fd
  g_require_place : mg "require_place" = some (.ref (He.ga K "require_place"))
  F_require_place : ∃ fd, FunD K "require_place" "require_place" (defArgs (top 17)) (defBody (top 17)) (defScope (top 17)) [] [] (He.ga K "require_place") fd
  g_require_die : mg "require_die" = some (.ref (He.ga K "require_die"))
  F_require_die : ∃ fd, FunD K "require_die" "require_die" (defArgs (top 30)) (defBody (top 30)) (defScope (top 30)) [] [] (He.ga K "require_die") fd
  g_coin_word : mg "coin_word" = some (.ref (He.ga K "coin_word"))
  F_coin_word : ∃ fd, FunD K "coin_word" "coin_word" (defArgs (top 35)) (defBody (top 35)) (defScope (top 35)) [] [] (He.ga K "coin_word") fd
  g_is_early : mg "is_early" = some (.ref (He.ga K "is_early"))
  F_is_early : ∃ fd, FunD K "is_early" "is_early" (defArgs (top 31)) (defBody (top 31)) (defScope (top 31)) [] [] (He.ga K "is_early") fd
  g_require_number : mg "require_number" = some (.ref (He.ga K "require_number"))
  F_require_number : ∃ fd, FunD K "require_number" "require_number" (defArgs (top 16)) (defBody (top 16)) (defScope (top 16)) [] [] (He.ga K "require_number") fd
  g_require_brink_word : mg "require_brink_word" = some (.ref (He.ga K "require_brink_word"))
  F_require_brink_word : ∃ fd, FunD K "require_brink_word" "require_brink_word" (defArgs (top 32)) (defBody (top 32)) (defScope (top 32)) [] [] (He.ga K "require_brink_word") fd
  g_go_word : mg "go_word" = some (.ref (He.ga K "go_word"))
  F_go_word : ∃ fd, FunD K "go_word" "go_word" (defArgs (top 33)) (defBody (top 33)) (defScope (top 33)) [] [] (He.ga K "go_word") fd
  g_stay_word : mg "stay_word" = some (.ref (He.ga K "stay_word"))
  F_stay_word : ∃ fd, FunD K "stay_word" "stay_word" (defArgs (top 34)) (defBody (top 34)) (defScope (top 34)) [] [] (He.ga K "stay_word") fd
  g_word_by : mg "word_by" = some (.ref (He.ga K "word_by"))
  F_word_by : ∃ fd, FunD K "word_by" "word_by" (defArgs (top 39)) (defBody (top 39)) (defScope (top 39)) [] [] (He.ga K "word_by") fd
  g_led : mg "led" = some (.ref (He.ga K "led"))
  F_led : ∃ fd, FunD K "led" "led" (defArgs (top 40)) (defBody (top 40)) (defScope (top 40)) [] [] (He.ga K "led") fd
  g__law_all_dice : mg "_law_all_dice" = some (.ref (He.ga K "_law_all_dice"))
  F__law_all_dice : ∃ fd, FunD K "_law_all_dice" "_law_all_dice" (defArgs (top 51)) (defBody (top 51)) (defScope (top 51)) [] [] (He.ga K "_law_all_dice") fd
  g__law_brinks : mg "_law_brinks" = some (.ref (He.ga K "_law_brinks"))
  F__law_brinks : ∃ fd, FunD K "_law_brinks" "_law_brinks" (defArgs (top 46)) (defBody (top 46)) (defScope (top 46)) [] [] (He.ga K "_law_brinks") fd
  g__law_coins : mg "_law_coins" = some (.ref (He.ga K "_law_coins"))
  F__law_coins : ∃ fd, FunD K "_law_coins" "_law_coins" (defArgs (top 47)) (defBody (top 47)) (defScope (top 47)) [] [] (He.ga K "_law_coins") fd
  g_arrow_by : mg "arrow_by" = some (.ref (He.ga K "arrow_by"))
  F_arrow_by : ∃ fd, FunD K "arrow_by" "arrow_by" (defArgs (top 37)) (defBody (top 37)) (defScope (top 37)) [] [] (He.ga K "arrow_by") fd
  g__law_refused : mg "_law_refused" = some (.ref (He.ga K "_law_refused"))
  F__law_refused : ∃ fd, FunD K "_law_refused" "_law_refused" (defArgs (top 54)) (defBody (top 54)) (defScope (top 54)) [] [] (He.ga K "_law_refused") fd
  g__law_marks_refused : mg "_law_marks_refused" = some (.ref (He.ga K "_law_marks_refused"))
  F__law_marks_refused : ∃ fd, FunD K "_law_marks_refused" "_law_marks_refused" (defArgs (top 56)) (defBody (top 56)) (defScope (top 56)) [] [] (He.ga K "_law_marks_refused") fd
  g__law_numbers : mg "_law_numbers" = some (.ref (He.ga K "_law_numbers"))
  F__law_numbers : ∃ fd, FunD K "_law_numbers" "_law_numbers" (defArgs (top 42)) (defBody (top 42)) (defScope (top 42)) [] [] (He.ga K "_law_numbers") fd
  g__law_refusals : mg "_law_refusals" = some (.ref (He.ga K "_law_refusals"))
  F__law_refusals : ∃ fd, FunD K "_law_refusals" "_law_refusals" (defArgs (top 55)) (defBody (top 55)) (defScope (top 55)) [] [] (He.ga K "_law_refusals") fd
  g__law_web : mg "_law_web" = some (.ref (He.ga K "_law_web"))
  F__law_web : ∃ fd, FunD K "_law_web" "_law_web" (defArgs (top 45)) (defBody (top 45)) (defScope (top 45)) [] [] (He.ga K "_law_web") fd
  g__law_below : mg "_law_below" = some (.ref (He.ga K "_law_below"))
  F__law_below : ∃ fd, FunD K "_law_below" "_law_below" (defArgs (top 52)) (defBody (top 52)) (defScope (top 52)) [] [] (He.ga K "_law_below") fd
  g__law_words : mg "_law_words" = some (.ref (He.ga K "_law_words"))
  F__law_words : ∃ fd, FunD K "_law_words" "_law_words" (defArgs (top 53)) (defBody (top 53)) (defScope (top 53)) [] [] (He.ga K "_law_words") fd
  g_law : mg "law" = some (.ref (He.ga K "law"))
  F_law : ∃ fd, FunD K "law" "law" (defArgs (top 57)) (defBody (top 57)) (defScope (top 57)) [] [] (He.ga K "law") fd
  g_StayError : mg "StayError" = some (.ref (He.ga K "StayError"))
  g_WebError : mg "WebError" = some (.ref (He.ga K "WebError"))
  g_NotUsable : mg "NotUsable" = some (.ref (He.ga K "NotUsable"))
  n_all : mg "all" = none
  n_bool : mg "bool" = none
  n_enumerate : mg "enumerate" = none
  n_int : mg "int" = none
  n_isinstance : mg "isinstance" = none
  n_len : mg "len" = none
  n_list : mg "list" = none
  n_range : mg "range" = none
  n_sum : mg "sum" = none
  n_tuple : mg "tuple" = none
  k_gcd : mg "gcd" = some (.builtin "math.gcd")
  x_NotUsable : OwnErr K mg "NotUsable"
  I_NotUsable : ∃ fd, FunD K "__init__" "NotUsable.__init__" (defArgs (meth 12 0)) (defBody (meth 12 0)) (defScope (meth 12 0)) [] [] (He.ma K (He.ga K "NotUsable") "__init__") fd
  no_NotUsable_word : PySem.W.findIn K (.ref (He.ga K "NotUsable")) "word" = some none
  no_NotUsable_at : PySem.W.findIn K (.ref (He.ga K "NotUsable")) "at" = some none
  ex_NotUsable_NotUsable : PySem.W.exmOne K (.ref (He.ga K "NotUsable")) (.ref (He.ga K "NotUsable")) = some true
section
variable {P : Program} {w : World} {K : PySem.W.Frag} {mg : Str → Option Value} {base : Heap}
theorem sci_NotUsable : FnScope ["self", "word", "at"] ["self", "word", "at"] (defScope (meth 12 0)) := ⟨rfl, rfl, rfl, by decide +kernel, rfl, by decide +kernel, by decide +kernel⟩
theorem i_NotUsable (fx : Facts K mg) : InitC2 P w K mg base (He.ma K (He.ga K "NotUsable") "__init__") ["self", "word", "at"] "word" "at" := by
  obtain ⟨fd, F⟩ := fx.I_NotUsable
  exact ⟨fd, init2_ok F sci_NotUsable (.inl rfl) (.inl rfl) (.inl rfl), F.bindsN fun _ _ _ _ _ _ us hl => match us, hl with | [_, _, _], _ => rfl⟩
noncomputable def D__law_share : SDen := sSeq (sIf (dBin oEq (dVar 0) (dC (.str "coin"))) (sSeq (sRet (dBin oSub (dVar 3) (dBin oMul (dBin oIx (dVar 1) (dC (.int 0))) (dBin oDiv (dVar 3) (dBin oIx (dVar 1) (dC (.int 1))))))) (sNil)) (sNil)) (sSeq (sSet 4 (dC (.int 0))) (sSeq (sIf (dOr (dIsN (dVar 1)) (dBin oLt (dVar 2) (dBin oIx (dVar 1) (dC (.int 0))))) (sSeq (sSet 4 (dVar 3)) (sNil)) (sSeq (sIf (dBin oEq (dVar 2) (dBin oIx (dVar 1) (dC (.int 0)))) (sSeq (sSet 4 (dBin oMul (dBin oIx (dBin oIx (dVar 1) (dC (.int 1))) (dC (.int 0))) (dBin oDiv (dVar 3) (dBin oIx (dBin oIx (dVar 1) (dC (.int 1))) (dC (.int 1)))))) (sNil)) (sNil)) (sNil))) (sSeq (sIf (dBin oEq (dVar 0) (dC (.str "stay"))) (sSeq (sRet (dBin oSub (dVar 3) (dVar 4))) (sNil)) (sNil)) (sSeq (sRet (dVar 4)) (sNil)))))
theorem Q__law_share : ∃ F : Op, F = fnOf ["_law_manner", "_law_mark", "_law_moment", "_law_bottom", "_law_share_here"] D__law_share := ⟨_, rfl⟩
noncomputable def O__law_share : Op := Classical.choose Q__law_share
instance is__law_share : Is O__law_share ["_law_manner", "_law_mark", "_law_moment", "_law_bottom", "_law_share_here"] D__law_share := ⟨Classical.choose_spec Q__law_share⟩
theorem sc__law_share : FnScope ["_law_manner", "_law_mark", "_law_moment", "_law_bottom", "_law_share_here"] ["_law_manner", "_law_mark", "_law_moment", "_law_bottom"] (defScope (top 48)) := ⟨rfl, rfl, rfl, by decide +kernel, rfl, by decide +kernel, by decide +kernel⟩
theorem b__law_share : BindsAll "_law_share" (top 48) ["_law_manner", "_law_mark", "_law_moment", "_law_bottom"] := fun _ _ _ _ _ _ us hl => match us, hl with | [_, _, _, _], _ => rfl
theorem c__law_share (fx : Facts K mg) : Callee P w K mg base 1 "_law_share" (top 48) ["_law_manner", "_law_mark", "_law_moment", "_law_bottom"] O__law_share := by
  obtain ⟨fd, F⟩ := fx.F__law_share
  refine ⟨fx.g__law_share, fd, F, ?_⟩
  rw [is__law_share.eq]
  refine fn_den F sc__law_share fun cdv A outer s H E hr tk => ?_
  have nd := sc__law_share.nd
  exact (dss_cons (ds_if (dt_eq hr.units (de_var 0) de_str) (dss_cons (ds_ret (de_sub (de_var 3) (de_mul (de_ix (de_var 1) de_int) (de_div (de_var 3) (de_ix (de_var 1) de_int)))))
      dss_nil) dss_nil)
      (dss_cons (ds_set 4 nd de_int)
      (dss_cons (ds_if (DW.dt (dw_or (dt_isN (de_var 1)) (dw_or1 (dt_lt (de_var 2) (de_ix (de_var 1) de_int))))) (dss_cons (ds_set 4 nd (de_var 3))
      dss_nil) (dss_cons (ds_if (dt_eq hr.units (de_var 2) (de_ix (de_var 1) de_int)) (dss_cons (ds_set 4 nd (de_mul (de_ix (de_ix (de_var 1) de_int) de_int) (de_div (de_var 3) (de_ix (de_ix (de_var 1) de_int) de_int))))
      dss_nil) dss_nil)
      dss_nil))
      (dss_cons (ds_if (dt_eq hr.units (de_var 0) de_str) (dss_cons (ds_ret (de_sub (de_var 3) (de_var 4)))
      dss_nil) dss_nil)
      (dss_cons (ds_ret (de_var 4))
      dss_nil)))))
noncomputable def D__law_dues : SDen := sSeq (sSet 6 (dCall oLen (dCons (dBin oIx (dVar 0) (dC (.int 0))) (dNil)))) (sSeq (sSet 7 (dBin oIx (dLst (dCons (dC (.int 1)) (dCons (dBin oPow (dVar 4) (dC (.int 2))) (dCons (dBin oPow (dVar 4) (dC (.int 4))) (dCons (dBin oPow (dVar 4) (dC (.int 6))) (dCons (dBin oPow (dVar 4) (dC (.int 8))) (dNil))))))) (dVar 5))) (sSeq (sSet 8 (dLc [9] (dRange1 (dVar 6)) (.one 9) (dYes) (dCall oInt1 (dCons (dBin oEq (dVar 9) (dVar 3)) (dNil))))) (sSeq (sSet 10 (dLstM (dNil))) (sSeq (sSet 11 (dLstM (dNil))) (sSeq (sFor (dRange1 (dVar 5)) (tName 12) (sSeq (sSet 13 (dLc [9] (dRange1 (dVar 6)) (.one 9) (dYes) (dFn 4 O__law_share (dCons (dVar 1) (dCons (dBin oIx (dVar 2) (dVar 9)) (dCons (dVar 12) (dCons (dVar 4) (dNil)))))))) (sSeq (sSet 7 (dBin oDiv (dVar 7) (dBin oMul (dVar 4) (dVar 4)))) (sSeq (sExpr (dApp (dVar 10) (dLc [9] (dRange1 (dVar 6)) (.one 9) (dYes) (dBin oMul (dBin oMul (dBin oMul (dBin oIx (dVar 8) (dVar 9)) (dBin oIx (dVar 13) (dVar 9))) (dVar 4)) (dVar 7))))) (sSeq (sExpr (dApp (dVar 11) (dLc [9] (dRange1 (dVar 6)) (.one 9) (dYes) (dBin oMul (dBin oMul (dBin oMul (dBin oIx (dVar 8) (dVar 9)) (dBin oSub (dVar 4) (dBin oIx (dVar 13) (dVar 9)))) (dVar 4)) (dVar 7))))) (sSeq (sSet 14 (dBin oDiv (dVar 4) (dBin oIx (dVar 0) (dC (.int 1))))) (sSeq (sSet 15 (dLc [9] (dRange1 (dVar 6)) (.one 9) (dYes) (dBin oMul (dBin oMul (dBin oIx (dVar 8) (dVar 9)) (dBin oIx (dVar 13) (dVar 9))) (dVar 14)))) (sSeq (sSet 8 (dLc [16] (dRange1 (dVar 6)) (.one 16) (dYes) (dCall oSum (dCons (dLc [9] (dRange1 (dVar 6)) (.one 9) (dYes) (dBin oMul (dBin oIx (dVar 15) (dVar 9)) (dBin oIx (dBin oIx (dBin oIx (dVar 0) (dC (.int 0))) (dVar 9)) (dVar 16)))) (dNil))))) (sNil))))))))) (sSeq (sRet (dTup (dCons (dVar 10) (dCons (dVar 11) (dCons (dVar 8) (dNil)))))) (sNil)))))))
theorem Q__law_dues : ∃ F : Op, F = fnOf ["_law_web_here", "_law_manner", "_law_marks", "_law_place", "_law_bottom", "_law_many", "_law_size", "_law_rest", "_law_stands", "_law_i", "_law_goes", "_law_stays", "_law_t", "_law_share_here", "_law_scale", "_law_gone", "_law_j"] D__law_dues := ⟨_, rfl⟩
noncomputable def O__law_dues : Op := Classical.choose Q__law_dues
instance is__law_dues : Is O__law_dues ["_law_web_here", "_law_manner", "_law_marks", "_law_place", "_law_bottom", "_law_many", "_law_size", "_law_rest", "_law_stands", "_law_i", "_law_goes", "_law_stays", "_law_t", "_law_share_here", "_law_scale", "_law_gone", "_law_j"] D__law_dues := ⟨Classical.choose_spec Q__law_dues⟩
theorem sc__law_dues : FnScope ["_law_web_here", "_law_manner", "_law_marks", "_law_place", "_law_bottom", "_law_many", "_law_size", "_law_rest", "_law_stands", "_law_i", "_law_goes", "_law_stays", "_law_t", "_law_share_here", "_law_scale", "_law_gone", "_law_j"] ["_law_web_here", "_law_manner", "_law_marks", "_law_place", "_law_bottom", "_law_many"] (defScope (top 49)) := ⟨rfl, rfl, rfl, by decide +kernel, rfl, by decide +kernel, by decide +kernel⟩
theorem b__law_dues : BindsAll "_law_dues" (top 49) ["_law_web_here", "_law_manner", "_law_marks", "_law_place", "_law_bottom", "_law_many"] := fun _ _ _ _ _ _ us hl => match us, hl with | [_, _, _, _, _, _], _ => rfl
theorem c__law_dues (fx : Facts K mg) : Callee P w K mg base 2 "_law_dues" (top 49) ["_law_web_here", "_law_manner", "_law_marks", "_law_place", "_law_bottom", "_law_many"] O__law_dues := by
  obtain ⟨fd, F⟩ := fx.F__law_dues
  refine ⟨fx.g__law_dues, fd, F, ?_⟩
  rw [is__law_dues.eq]
  refine fn_den F sc__law_dues fun cdv A outer s H E hr tk => ?_
  have nd := sc__law_dues.nd
  exact (dss_cons (ds_set 6 nd (de_len fx.n_len (da_cons (de_ix (de_var 0) de_int) da_nil)))
      (dss_cons (ds_set 7 nd (de_ix (de_lst (da_cons de_int (da_cons (de_pow (de_var 4) de_int) (da_cons (de_pow (de_var 4) de_int) (da_cons (de_pow (de_var 4) de_int) (da_cons (de_pow (de_var 4) de_int) da_nil)))))) (de_var 5)))
      (dss_cons (ds_set 8 nd (de_lc [("_law_i", 9)] (.one 9) rfl nd (by decide) (by exact blkB_ok (by kernel_rfl)) (di_range1 fx.n_range (de_var 6)) (fun _ _ _ _ _ => (pg_name nd rfl (by first | exact .inl rfl | exact .inr rfl) (by first | exact .inl rfl | exact .inr rfl))) (fun _ _ _ _ _ => dts_nil) (fun _ _ _ _ _ => (de_callTy call_int1 callD_int1 (by decide +kernel) fx.n_int (da_cons (de_eq hr.units (de_var 9) (de_var 3)) da_nil)))))
      (dss_cons (ds_set 10 nd (de_lstM da_nil))
      (dss_cons (ds_set 11 nd (de_lstM da_nil))
      (dss_cons (ds_for (L2.passes_of rfl) rfl (di_range1 fx.n_range (de_var 5)) (dg_name 12 nd) (dss_cons (ds_set 13 nd (de_lc [("_law_i", 9)] (.one 9) rfl nd (by decide) (by exact blkB_ok (by kernel_rfl)) (di_range1 fx.n_range (de_var 6)) (fun _ _ _ _ _ => (pg_name nd rfl (by first | exact .inl rfl | exact .inr rfl) (by first | exact .inl rfl | exact .inr rfl))) (fun _ _ _ _ _ => dts_nil) (fun _ _ _ _ _ => (de_callC (c__law_share fx) b__law_share hr (by omega) takes0 (da_cons (de_var 1) (da_cons (de_ix (de_var 2) (de_var 9)) (da_cons (de_var 12) (da_cons (de_var 4) da_nil))))))))
      (dss_cons (ds_set 7 nd (de_div (de_var 7) (de_mul (de_var 4) (de_var 4))))
      (dss_cons (ds_expr (de_app (de_var 10) (de_lc [("_law_i", 9)] (.one 9) rfl nd (by decide) (by exact blkB_ok (by kernel_rfl)) (di_range1 fx.n_range (de_var 6)) (fun _ _ _ _ _ => (pg_name nd rfl (by first | exact .inl rfl | exact .inr rfl) (by first | exact .inl rfl | exact .inr rfl))) (fun _ _ _ _ _ => dts_nil) (fun _ _ _ _ _ => (de_mul (de_mul (de_mul (de_ix (de_var 8) (de_var 9)) (de_ix (de_var 13) (de_var 9))) (de_var 4)) (de_var 7))))))
      (dss_cons (ds_expr (de_app (de_var 11) (de_lc [("_law_i", 9)] (.one 9) rfl nd (by decide) (by exact blkB_ok (by kernel_rfl)) (di_range1 fx.n_range (de_var 6)) (fun _ _ _ _ _ => (pg_name nd rfl (by first | exact .inl rfl | exact .inr rfl) (by first | exact .inl rfl | exact .inr rfl))) (fun _ _ _ _ _ => dts_nil) (fun _ _ _ _ _ => (de_mul (de_mul (de_mul (de_ix (de_var 8) (de_var 9)) (de_sub (de_var 4) (de_ix (de_var 13) (de_var 9)))) (de_var 4)) (de_var 7))))))
      (dss_cons (ds_set 14 nd (de_div (de_var 4) (de_ix (de_var 0) de_int)))
      (dss_cons (ds_set 15 nd (de_lc [("_law_i", 9)] (.one 9) rfl nd (by decide) (by exact blkB_ok (by kernel_rfl)) (di_range1 fx.n_range (de_var 6)) (fun _ _ _ _ _ => (pg_name nd rfl (by first | exact .inl rfl | exact .inr rfl) (by first | exact .inl rfl | exact .inr rfl))) (fun _ _ _ _ _ => dts_nil) (fun _ _ _ _ _ => (de_mul (de_mul (de_ix (de_var 8) (de_var 9)) (de_ix (de_var 13) (de_var 9))) (de_var 14)))))
      (dss_cons (ds_set 8 nd (de_lc [("_law_j", 16)] (.one 16) rfl nd (by decide) (by exact blkB_ok (by kernel_rfl)) (di_range1 fx.n_range (de_var 6)) (fun _ _ _ _ _ => (pg_name nd rfl (by first | exact .inl rfl | exact .inr rfl) (by first | exact .inl rfl | exact .inr rfl))) (fun _ _ _ _ _ => dts_nil) (fun _ _ _ _ _ => (de_callB (call_sumA rfl) callD_sum (by decide +kernel) fx.n_sum (da_cons (de_lc [("_law_i", 9)] (.one 9) rfl nd (by decide) (by exact blkB_ok (by kernel_rfl)) (di_range1 fx.n_range (de_var 6)) (fun _ _ _ _ _ => (pg_name nd rfl (by first | exact .inl rfl | exact .inr rfl) (by first | exact .inl rfl | exact .inr rfl))) (fun _ _ _ _ _ => dts_nil) (fun _ _ _ _ _ => (de_mul (de_ix (de_var 15) (de_var 9)) (de_ix (de_ix (de_ix (de_var 0) de_int) (de_var 9)) (de_var 16))))) da_nil)))))
      dss_nil))))))))
      (dss_cons (ds_ret (de_tup (da_cons (de_var 10) (da_cons (de_var 11) (da_cons (de_var 8) da_nil)))))
      dss_nil)))))))
noncomputable def D__law_is_led : SDen := sSeq (sIf (dOr (dNot (dTru (dIsi "tuple" (dVar 0)))) (dOr (dBin oNe (dCall oLen (dCons (dVar 0) (dNil))) (dC (.int 2))) (dNot (dTru (dIsi "tuple" (dBin oIx (dVar 0) (dC (.int 0)))))))) (sSeq (sRet (dC (.bl false))) (sNil)) (sNil)) (sSeq (sIf (dOr (dBin oEq (dCall oLen (dCons (dBin oIx (dVar 0) (dC (.int 0))) (dNil))) (dC (.int 0))) (dOr (dBin oGt (dCall oLen (dCons (dBin oIx (dVar 0) (dC (.int 0))) (dNil))) (dBin oPlus (dVar 2) (dC (.int 1)))) (dBin oNe (dBin oIx (dBin oIx (dVar 0) (dC (.int 0))) (dC (.int 0))) (dVar 3)))) (sSeq (sRet (dC (.bl false))) (sNil)) (sNil)) (sSeq (sFor (dItems (dBin oIx (dVar 0) (dC (.int 0)))) (tName 4) (sSeq (sIf (dOr (dNot (dTru (dIsi "int" (dVar 4)))) (dOr (dTru (dIsi "bool" (dVar 4))) (dOr (dBin oLt (dVar 4) (dC (.int 0))) (dBin oGe (dVar 4) (dVar 1))))) (sSeq (sRet (dC (.bl false))) (sNil)) (sNil)) (sNil))) (sSeq (sIf (dIsB true (dBin oIx (dVar 0) (dC (.int 1)))) (sSeq (sRet (dBin oLe (dCall oLen (dCons (dBin oIx (dVar 0) (dC (.int 0))) (dNil))) (dVar 2))) (sNil)) (sNil)) (sSeq (sRet (dAnd (dIsB false (dBin oIx (dVar 0) (dC (.int 1)))) (dBin oEq (dCall oLen (dCons (dBin oIx (dVar 0) (dC (.int 0))) (dNil))) (dBin oPlus (dVar 2) (dC (.int 1)))))) (sNil)))))
theorem Q__law_is_led : ∃ F : Op, F = fnOf ["_law_told", "_law_size", "_law_many", "_law_place", "_law_one"] D__law_is_led := ⟨_, rfl⟩
noncomputable def O__law_is_led : Op := Classical.choose Q__law_is_led
instance is__law_is_led : Is O__law_is_led ["_law_told", "_law_size", "_law_many", "_law_place", "_law_one"] D__law_is_led := ⟨Classical.choose_spec Q__law_is_led⟩
theorem sc__law_is_led : FnScope ["_law_told", "_law_size", "_law_many", "_law_place", "_law_one"] ["_law_told", "_law_size", "_law_many", "_law_place"] (defScope (top 50)) := ⟨rfl, rfl, rfl, by decide +kernel, rfl, by decide +kernel, by decide +kernel⟩
theorem b__law_is_led : BindsAll "_law_is_led" (top 50) ["_law_told", "_law_size", "_law_many", "_law_place"] := fun _ _ _ _ _ _ us hl => match us, hl with | [_, _, _, _], _ => rfl
theorem c__law_is_led (fx : Facts K mg) : Callee P w K mg base 1 "_law_is_led" (top 50) ["_law_told", "_law_size", "_law_many", "_law_place"] O__law_is_led := by
  obtain ⟨fd, F⟩ := fx.F__law_is_led
  refine ⟨fx.g__law_is_led, fd, F, ?_⟩
  rw [is__law_is_led.eq]
  refine fn_den F sc__law_is_led fun cdv A outer s H E hr tk => ?_
  have nd := sc__law_is_led.nd
  exact (dss_cons (ds_if (DW.dt (dw_or (dt_not (dt_truth (de_isi (de_var 0) fx.n_isinstance fx.n_tuple (by decide +kernel) (by decide)))) (dw_or (dt_ne hr.units (de_len fx.n_len (da_cons (de_var 0) da_nil)) de_int) (dw_or1 (dt_not (dt_truth (de_isi (de_ix (de_var 0) de_int) fx.n_isinstance fx.n_tuple (by decide +kernel) (by decide)))))))) (dss_cons (ds_ret de_bl)
      dss_nil) dss_nil)
      (dss_cons (ds_if (DW.dt (dw_or (dt_eq hr.units (de_len fx.n_len (da_cons (de_ix (de_var 0) de_int) da_nil)) de_int) (dw_or (dt_gt (de_len fx.n_len (da_cons (de_ix (de_var 0) de_int) da_nil)) (de_add (de_var 2) de_int)) (dw_or1 (dt_ne hr.units (de_ix (de_ix (de_var 0) de_int) de_int) (de_var 3)))))) (dss_cons (ds_ret de_bl)
      dss_nil) dss_nil)
      (dss_cons (ds_for (L2.passes_of rfl) rfl (di_seq (de_ix (de_var 0) de_int)) (dg_name 4 nd) (dss_cons (ds_if (DW.dt (dw_or (dt_not (dt_truth (de_isi (de_var 4) fx.n_isinstance fx.n_int (by decide +kernel) (by decide)))) (dw_or (dt_truth (de_isi (de_var 4) fx.n_isinstance fx.n_bool (by decide +kernel) (by decide))) (dw_or (dt_lt (de_var 4) de_int) (dw_or1 (dt_ge (de_var 4) (de_var 1))))))) (dss_cons (ds_ret de_bl)
      dss_nil) dss_nil)
      dss_nil))
      (dss_cons (ds_if (dt_isB (de_ix (de_var 0) de_int)) (dss_cons (ds_ret (de_le (de_len fx.n_len (da_cons (de_ix (de_var 0) de_int) da_nil)) (de_var 2)))
      dss_nil) dss_nil)
      (dss_cons (ds_ret (de_and (de_isB (de_ix (de_var 0) de_int)) (de_one (de_eq hr.units (de_len fx.n_len (da_cons (de_ix (de_var 0) de_int) da_nil)) (de_add (de_var 2) de_int)))))
      dss_nil)))))
noncomputable def D__law_gcd : SDen := sSeq (sFor (dRange1 (dC (.int 200))) (tName 2) (sSeq (sIf (dBin oEq (dVar 1) (dC (.int 0))) (sSeq (sRet (dVar 0)) (sNil)) (sNil)) (sSeq (sPar 0 1 (dCons (dVar 1) (dCons (dBin oMod (dCall oInt1 (dCons (dVar 0) (dNil))) (dVar 1)) (dNil)))) (sNil)))) (sSeq (sRet (dC (.int 1))) (sNil))
theorem Q__law_gcd : ∃ F : Op, F = fnOf ["_law_one", "_law_other", "_law_k"] D__law_gcd := ⟨_, rfl⟩
noncomputable def O__law_gcd : Op := Classical.choose Q__law_gcd
instance is__law_gcd : Is O__law_gcd ["_law_one", "_law_other", "_law_k"] D__law_gcd := ⟨Classical.choose_spec Q__law_gcd⟩
theorem sc__law_gcd : FnScope ["_law_one", "_law_other", "_law_k"] ["_law_one", "_law_other"] (defScope (top 43)) := ⟨rfl, rfl, rfl, by decide +kernel, rfl, by decide +kernel, by decide +kernel⟩
theorem b__law_gcd : BindsAll "_law_gcd" (top 43) ["_law_one", "_law_other"] := fun _ _ _ _ _ _ us hl => match us, hl with | [_, _], _ => rfl
theorem c__law_gcd (fx : Facts K mg) : Callee P w K mg base 1 "_law_gcd" (top 43) ["_law_one", "_law_other"] O__law_gcd := by
  obtain ⟨fd, F⟩ := fx.F__law_gcd
  refine ⟨fx.g__law_gcd, fd, F, ?_⟩
  rw [is__law_gcd.eq]
  refine fn_den F sc__law_gcd fun cdv A outer s H E hr tk => ?_
  have nd := sc__law_gcd.nd
  exact (dss_cons (ds_for (L2.passes_of rfl) rfl (di_range1 fx.n_range de_int) (dg_name 2 nd) (dss_cons (ds_if (dt_eq hr.units (de_var 1) de_int) (dss_cons (ds_ret (de_var 0))
      dss_nil) dss_nil)
      (dss_cons (ds_par 0 1 rfl nd (da_cons (de_var 1) (da_cons (de_mod (de_callTy call_int1 callD_int1 (by decide +kernel) fx.n_int (da_cons (de_var 0) da_nil)) (de_var 1)) da_nil)))
      dss_nil)))
      (dss_cons (ds_ret de_int)
      dss_nil))
noncomputable def D__law_lowest : SDen := sSeq (sSet 2 (dFn 2 O__law_gcd (dCons (dVar 1) (dCons (dVar 0) (dNil))))) (sSeq (sRet (dTup (dCons (dBin oDiv (dVar 0) (dVar 2)) (dCons (dBin oDiv (dVar 1) (dVar 2)) (dNil))))) (sNil))
theorem Q__law_lowest : ∃ F : Op, F = fnOf ["_law_top", "_law_bottom", "_law_part"] D__law_lowest := ⟨_, rfl⟩
noncomputable def O__law_lowest : Op := Classical.choose Q__law_lowest
instance is__law_lowest : Is O__law_lowest ["_law_top", "_law_bottom", "_law_part"] D__law_lowest := ⟨Classical.choose_spec Q__law_lowest⟩
theorem sc__law_lowest : FnScope ["_law_top", "_law_bottom", "_law_part"] ["_law_top", "_law_bottom"] (defScope (top 44)) := ⟨rfl, rfl, rfl, by decide +kernel, rfl, by decide +kernel, by decide +kernel⟩
theorem b__law_lowest : BindsAll "_law_lowest" (top 44) ["_law_top", "_law_bottom"] := fun _ _ _ _ _ _ us hl => match us, hl with | [_, _], _ => rfl
theorem c__law_lowest (fx : Facts K mg) : Callee P w K mg base 2 "_law_lowest" (top 44) ["_law_top", "_law_bottom"] O__law_lowest := by
  obtain ⟨fd, F⟩ := fx.F__law_lowest
  refine ⟨fx.g__law_lowest, fd, F, ?_⟩
  rw [is__law_lowest.eq]
  refine fn_den F sc__law_lowest fun cdv A outer s H E hr tk => ?_
  have nd := sc__law_lowest.nd
  exact (dss_cons (ds_set 2 nd (de_callC (c__law_gcd fx) b__law_gcd hr (by omega) tk (da_cons (de_var 1) (da_cons (de_var 0) da_nil))))
      (dss_cons (ds_ret (de_tup (da_cons (de_div (de_var 0) (de_var 2)) (da_cons (de_div (de_var 1) (de_var 2)) da_nil))))
      dss_nil))
noncomputable def D_is_integer : SDen := sSeq (sRet (dAnd (dIsi "int" (dVar 0)) (dNot (dIsi "bool" (dVar 0))))) (sNil)
theorem Q_is_integer : ∃ F : Op, F = fnOf ["thing"] D_is_integer := ⟨_, rfl⟩
noncomputable def O_is_integer : Op := Classical.choose Q_is_integer
instance is_is_integer : Is O_is_integer ["thing"] D_is_integer := ⟨Classical.choose_spec Q_is_integer⟩
theorem sc_is_integer : FnScope ["thing"] ["thing"] (defScope (top 2)) := ⟨rfl, rfl, rfl, by decide +kernel, rfl, by decide +kernel, by decide +kernel⟩
theorem b_is_integer : BindsAll "is_integer" (top 2) ["thing"] := fun _ _ _ _ _ _ us hl => match us, hl with | [_], _ => rfl
theorem c_is_integer (fx : Facts K mg) : Callee P w K mg base 1 "is_integer" (top 2) ["thing"] O_is_integer := by
  obtain ⟨fd, F⟩ := fx.F_is_integer
  refine ⟨fx.g_is_integer, fd, F, ?_⟩
  rw [is_is_integer.eq]
  refine fn_den F sc_is_integer fun cdv A outer s H E hr tk => ?_
  have nd := sc_is_integer.nd
  exact (dss_cons (ds_ret (de_and (de_isi (de_var 0) fx.n_isinstance fx.n_int (by decide +kernel) (by decide)) (de_one (de_not (de_isi (de_var 0) fx.n_isinstance fx.n_bool (by decide +kernel) (by decide))))))
      dss_nil)
noncomputable def D_is_bottom : SDen := sSeq (sRet (dAnd (dFn 1 O_is_integer (dCons (dVar 0) (dNil))) (dBin oGe (dVar 0) (dC (.int 1))))) (sNil)
theorem Q_is_bottom : ∃ F : Op, F = fnOf ["thing"] D_is_bottom := ⟨_, rfl⟩
noncomputable def O_is_bottom : Op := Classical.choose Q_is_bottom
instance is_is_bottom : Is O_is_bottom ["thing"] D_is_bottom := ⟨Classical.choose_spec Q_is_bottom⟩
theorem sc_is_bottom : FnScope ["thing"] ["thing"] (defScope (top 5)) := ⟨rfl, rfl, rfl, by decide +kernel, rfl, by decide +kernel, by decide +kernel⟩
theorem b_is_bottom : BindsAll "is_bottom" (top 5) ["thing"] := fun _ _ _ _ _ _ us hl => match us, hl with | [_], _ => rfl
theorem c_is_bottom (fx : Facts K mg) : Callee P w K mg base 2 "is_bottom" (top 5) ["thing"] O_is_bottom := by
  obtain ⟨fd, F⟩ := fx.F_is_bottom
  refine ⟨fx.g_is_bottom, fd, F, ?_⟩
  rw [is_is_bottom.eq]
  refine fn_den F sc_is_bottom fun cdv A outer s H E hr tk => ?_
  have nd := sc_is_bottom.nd
  exact (dss_cons (ds_ret (de_and (de_callC (c_is_integer fx) b_is_integer hr (by omega) tk (da_cons (de_var 0) da_nil)) (de_one (de_ge (de_var 0) de_int))))
      dss_nil)
noncomputable def D_is_pair : SDen := sSeq (sRet (dAnd (dIsi "tuple" (dVar 0)) (dBin oEq (dCall oLen (dCons (dVar 0) (dNil))) (dC (.int 2))))) (sNil)
theorem Q_is_pair : ∃ F : Op, F = fnOf ["thing"] D_is_pair := ⟨_, rfl⟩
noncomputable def O_is_pair : Op := Classical.choose Q_is_pair
instance is_is_pair : Is O_is_pair ["thing"] D_is_pair := ⟨Classical.choose_spec Q_is_pair⟩
theorem sc_is_pair : FnScope ["thing"] ["thing"] (defScope (top 6)) := ⟨rfl, rfl, rfl, by decide +kernel, rfl, by decide +kernel, by decide +kernel⟩
theorem b_is_pair : BindsAll "is_pair" (top 6) ["thing"] := fun _ _ _ _ _ _ us hl => match us, hl with | [_], _ => rfl
theorem c_is_pair (fx : Facts K mg) : Callee P w K mg base 1 "is_pair" (top 6) ["thing"] O_is_pair := by
  obtain ⟨fd, F⟩ := fx.F_is_pair
  refine ⟨fx.g_is_pair, fd, F, ?_⟩
  rw [is_is_pair.eq]
  refine fn_den F sc_is_pair fun cdv A outer s H E hr tk => ?_
  have nd := sc_is_pair.nd
  exact (dss_cons (ds_ret (de_and (de_isi (de_var 0) fx.n_isinstance fx.n_tuple (by decide +kernel) (by decide)) (de_one (de_eq hr.units (de_len fx.n_len (da_cons (de_var 0) da_nil)) de_int))))
      dss_nil)
noncomputable def D_is_quotient : SDen := sSeq (sRet (dAnd (dFn 1 O_is_pair (dCons (dVar 0) (dNil))) (dAnd (dFn 1 O_is_integer (dCons (dBin oIx (dVar 0) (dC (.int 0))) (dNil))) (dAnd (dFn 1 O_is_bottom (dCons (dBin oIx (dVar 0) (dC (.int 1))) (dNil))) (dBin oEq (dCall oGcd (dCons (dBin oIx (dVar 0) (dC (.int 0))) (dCons (dBin oIx (dVar 0) (dC (.int 1))) (dNil)))) (dC (.int 1))))))) (sNil)
theorem Q_is_quotient : ∃ F : Op, F = fnOf ["thing"] D_is_quotient := ⟨_, rfl⟩
noncomputable def O_is_quotient : Op := Classical.choose Q_is_quotient
instance is_is_quotient : Is O_is_quotient ["thing"] D_is_quotient := ⟨Classical.choose_spec Q_is_quotient⟩
theorem sc_is_quotient : FnScope ["thing"] ["thing"] (defScope (top 7)) := ⟨rfl, rfl, rfl, by decide +kernel, rfl, by decide +kernel, by decide +kernel⟩
theorem b_is_quotient : BindsAll "is_quotient" (top 7) ["thing"] := fun _ _ _ _ _ _ us hl => match us, hl with | [_], _ => rfl
theorem c_is_quotient (fx : Facts K mg) : Callee P w K mg base 3 "is_quotient" (top 7) ["thing"] O_is_quotient := by
  obtain ⟨fd, F⟩ := fx.F_is_quotient
  refine ⟨fx.g_is_quotient, fd, F, ?_⟩
  rw [is_is_quotient.eq]
  refine fn_den F sc_is_quotient fun cdv A outer s H E hr tk => ?_
  have nd := sc_is_quotient.nd
  exact (dss_cons (ds_ret (de_and (de_callC (c_is_pair fx) b_is_pair hr (by omega) tk (da_cons (de_var 0) da_nil)) (de_and (de_callC (c_is_integer fx) b_is_integer hr (by omega) tk (da_cons (de_ix (de_var 0) de_int) da_nil)) (de_and (de_callC (c_is_bottom fx) b_is_bottom hr (by omega) tk (da_cons (de_ix (de_var 0) de_int) da_nil)) (de_one (de_eq hr.units (de_callM cr_gcd callD_gcd fx.k_gcd (da_cons (de_ix (de_var 0) de_int) (da_cons (de_ix (de_var 0) de_int) da_nil))) de_int))))))
      dss_nil)
noncomputable def D_is_amount : SDen := sSeq (sRet (dAnd (dFn 1 O_is_quotient (dCons (dVar 0) (dNil))) (dBin oGe (dBin oIx (dVar 0) (dC (.int 0))) (dC (.int 0))))) (sNil)
theorem Q_is_amount : ∃ F : Op, F = fnOf ["thing"] D_is_amount := ⟨_, rfl⟩
noncomputable def O_is_amount : Op := Classical.choose Q_is_amount
instance is_is_amount : Is O_is_amount ["thing"] D_is_amount := ⟨Classical.choose_spec Q_is_amount⟩
theorem sc_is_amount : FnScope ["thing"] ["thing"] (defScope (top 8)) := ⟨rfl, rfl, rfl, by decide +kernel, rfl, by decide +kernel, by decide +kernel⟩
theorem b_is_amount : BindsAll "is_amount" (top 8) ["thing"] := fun _ _ _ _ _ _ us hl => match us, hl with | [_], _ => rfl
theorem c_is_amount (fx : Facts K mg) : Callee P w K mg base 4 "is_amount" (top 8) ["thing"] O_is_amount := by
  obtain ⟨fd, F⟩ := fx.F_is_amount
  refine ⟨fx.g_is_amount, fd, F, ?_⟩
  rw [is_is_amount.eq]
  refine fn_den F sc_is_amount fun cdv A outer s H E hr tk => ?_
  have nd := sc_is_amount.nd
  exact (dss_cons (ds_ret (de_and (de_callC (c_is_quotient fx) b_is_quotient hr (by omega) tk (da_cons (de_var 0) da_nil)) (de_one (de_ge (de_ix (de_var 0) de_int) de_int))))
      dss_nil)
noncomputable def D_require : SDen := sSeq (sIf (dNot (dTru (dVar 0))) (sSeq (sRaise "NotUsable" ["at", "word"] [1, 0] (dCons (dVar 1) (dCons (dUn oNeg (dC (.int 1))) (dNil)))) (sNil)) (sNil)) (sNil)
theorem Q_require : ∃ F : Op, F = fnOf ["holds", "name"] D_require := ⟨_, rfl⟩
noncomputable def O_require : Op := Classical.choose Q_require
instance is_require : Is O_require ["holds", "name"] D_require := ⟨Classical.choose_spec Q_require⟩
theorem sc_require : FnScope ["holds", "name"] ["holds", "name"] (defScope (top 14)) := ⟨rfl, rfl, rfl, by decide +kernel, rfl, by decide +kernel, by decide +kernel⟩
theorem b_require : BindsAll "require" (top 14) ["holds", "name"] := fun _ _ _ _ _ _ us hl => match us, hl with | [_, _], _ => rfl
theorem c_require (fx : Facts K mg) : Callee P w K mg base 3 "require" (top 14) ["holds", "name"] O_require := by
  obtain ⟨fd, F⟩ := fx.F_require
  refine ⟨fx.g_require, fd, F, ?_⟩
  rw [is_require.eq]
  refine fn_den F sc_require fun cdv A outer s H E hr tk => ?_
  have nd := sc_require.nd
  exact (dss_cons (ds_if (dt_not (dt_truth (de_var 0))) (dss_cons (raise2C fx.x_NotUsable fx.no_NotUsable_word fx.no_NotUsable_at (i_NotUsable fx) hr (by omega) rfl tk (da_cons (de_var 1) (da_cons (de_neg de_int) da_nil)))
      dss_nil) dss_nil)
      dss_nil)
noncomputable def D_require_quotients : SDen := sSeq (sExpr (dFn 2 O_require (dCons (dFn 1 O_is_quotient (dCons (dVar 0) (dNil))) (dCons (dC (.str "one")) (dNil))))) (sSeq (sExpr (dFn 2 O_require (dCons (dFn 1 O_is_quotient (dCons (dVar 1) (dNil))) (dCons (dC (.str "other")) (dNil))))) (sNil))
theorem Q_require_quotients : ∃ F : Op, F = fnOf ["one", "other"] D_require_quotients := ⟨_, rfl⟩
noncomputable def O_require_quotients : Op := Classical.choose Q_require_quotients
instance is_require_quotients : Is O_require_quotients ["one", "other"] D_require_quotients := ⟨Classical.choose_spec Q_require_quotients⟩
theorem sc_require_quotients : FnScope ["one", "other"] ["one", "other"] (defScope (top 19)) := ⟨rfl, rfl, rfl, by decide +kernel, rfl, by decide +kernel, by decide +kernel⟩
theorem b_require_quotients : BindsAll "require_quotients" (top 19) ["one", "other"] := fun _ _ _ _ _ _ us hl => match us, hl with | [_, _], _ => rfl
theorem c_require_quotients (fx : Facts K mg) : Callee P w K mg base 4 "require_quotients" (top 19) ["one", "other"] O_require_quotients := by
  obtain ⟨fd, F⟩ := fx.F_require_quotients
  refine ⟨fx.g_require_quotients, fd, F, ?_⟩
  rw [is_require_quotients.eq]
  refine fn_den F sc_require_quotients fun cdv A outer s H E hr tk => ?_
  have nd := sc_require_quotients.nd
  exact (dss_cons (ds_expr (de_callC (c_require fx) b_require hr (by omega) tk (da_cons (de_callC (c_is_quotient fx) b_is_quotient hr (by omega) tk (da_cons (de_var 0) da_nil)) (da_cons de_str da_nil))))
      (dss_cons (ds_expr (de_callC (c_require fx) b_require hr (by omega) tk (da_cons (de_callC (c_is_quotient fx) b_is_quotient hr (by omega) tk (da_cons (de_var 1) da_nil)) (da_cons de_str da_nil))))
      dss_nil))
noncomputable def D_is_less : SDen := sSeq (sExpr (dFn 2 O_require_quotients (dCons (dVar 0) (dCons (dVar 1) (dNil))))) (sSeq (sRet (dBin oLt (dBin oMul (dBin oIx (dVar 0) (dC (.int 0))) (dBin oIx (dVar 1) (dC (.int 1)))) (dBin oMul (dBin oIx (dVar 1) (dC (.int 0))) (dBin oIx (dVar 0) (dC (.int 1)))))) (sNil))
theorem Q_is_less : ∃ F : Op, F = fnOf ["one", "other"] D_is_less := ⟨_, rfl⟩
noncomputable def O_is_less : Op := Classical.choose Q_is_less
instance is_is_less : Is O_is_less ["one", "other"] D_is_less := ⟨Classical.choose_spec Q_is_less⟩
theorem sc_is_less : FnScope ["one", "other"] ["one", "other"] (defScope (top 20)) := ⟨rfl, rfl, rfl, by decide +kernel, rfl, by decide +kernel, by decide +kernel⟩
theorem b_is_less : BindsAll "is_less" (top 20) ["one", "other"] := fun _ _ _ _ _ _ us hl => match us, hl with | [_, _], _ => rfl
theorem c_is_less (fx : Facts K mg) : Callee P w K mg base 5 "is_less" (top 20) ["one", "other"] O_is_less := by
  obtain ⟨fd, F⟩ := fx.F_is_less
  refine ⟨fx.g_is_less, fd, F, ?_⟩
  rw [is_is_less.eq]
  refine fn_den F sc_is_less fun cdv A outer s H E hr tk => ?_
  have nd := sc_is_less.nd
  exact (dss_cons (ds_expr (de_callC (c_require_quotients fx) b_require_quotients hr (by omega) tk (da_cons (de_var 0) (da_cons (de_var 1) da_nil))))
      (dss_cons (ds_ret (de_lt (de_mul (de_ix (de_var 0) de_int) (de_ix (de_var 1) de_int)) (de_mul (de_ix (de_var 1) de_int) (de_ix (de_var 0) de_int))))
      dss_nil))
noncomputable def D_is_die : SDen := sSeq (sRet (dAnd (dFn 1 O_is_amount (dCons (dVar 0) (dNil))) (dFn 2 O_is_less (dCons (dVar 0) (dCons (dTup (dCons (dC (.int 1)) (dCons (dC (.int 1)) (dNil)))) (dNil)))))) (sNil)
theorem Q_is_die : ∃ F : Op, F = fnOf ["thing"] D_is_die := ⟨_, rfl⟩
noncomputable def O_is_die : Op := Classical.choose Q_is_die
instance is_is_die : Is O_is_die ["thing"] D_is_die := ⟨Classical.choose_spec Q_is_die⟩
theorem sc_is_die : FnScope ["thing"] ["thing"] (defScope (top 29)) := ⟨rfl, rfl, rfl, by decide +kernel, rfl, by decide +kernel, by decide +kernel⟩
theorem b_is_die : BindsAll "is_die" (top 29) ["thing"] := fun _ _ _ _ _ _ us hl => match us, hl with | [_], _ => rfl
theorem bk_is_die_thing : BindsKw "is_die" (top 29) ["thing"] ["thing"] [0] := fun _ _ _ _ _ _ us hl => match us, hl with | [_], _ => rfl
theorem c_is_die (fx : Facts K mg) : Callee P w K mg base 6 "is_die" (top 29) ["thing"] O_is_die := by
  obtain ⟨fd, F⟩ := fx.F_is_die
  refine ⟨fx.g_is_die, fd, F, ?_⟩
  rw [is_is_die.eq]
  refine fn_den F sc_is_die fun cdv A outer s H E hr tk => ?_
  have nd := sc_is_die.nd
  exact (dss_cons (ds_ret (de_and (de_callC (c_is_amount fx) b_is_amount hr (by omega) tk (da_cons (de_var 0) da_nil)) (de_one (de_callC (c_is_less fx) b_is_less hr (by omega) tk (da_cons (de_var 0) (da_cons (de_tup (da_cons de_int (da_cons de_int da_nil))) da_nil))))))
      dss_nil)
noncomputable def D_are_dice : SDen := sSeq (sRet (dAnd (dIsi "tuple" (dVar 0)) (dCall oAll (dCons (dLc [1] (dItems (dVar 0)) (.one 1) (dYes) (dAnd (dFn 1 O_is_pair (dCons (dVar 1) (dNil))) (dAnd (dFn 1 O_is_die (dCons (dBin oIx (dVar 1) (dC (.int 0))) (dNil))) (dFn 1 O_is_die (dCons (dBin oIx (dVar 1) (dC (.int 1))) (dNil)))))) (dNil))))) (sNil)
theorem Q_are_dice : ∃ F : Op, F = fnOf ["thing", "pair"] D_are_dice := ⟨_, rfl⟩
noncomputable def O_are_dice : Op := Classical.choose Q_are_dice
instance is_are_dice : Is O_are_dice ["thing", "pair"] D_are_dice := ⟨Classical.choose_spec Q_are_dice⟩
theorem sc_are_dice : FnScope ["thing", "pair"] ["thing"] (defScope (top 38)) := ⟨rfl, rfl, rfl, by decide +kernel, rfl, by decide +kernel, by decide +kernel⟩
theorem b_are_dice : BindsAll "are_dice" (top 38) ["thing"] := fun _ _ _ _ _ _ us hl => match us, hl with | [_], _ => rfl
theorem c_are_dice (fx : Facts K mg) : Callee P w K mg base 7 "are_dice" (top 38) ["thing"] O_are_dice := by
  obtain ⟨fd, F⟩ := fx.F_are_dice
  refine ⟨fx.g_are_dice, fd, F, ?_⟩
  rw [is_are_dice.eq]
  refine fn_den F sc_are_dice fun cdv A outer s H E hr tk => ?_
  have nd := sc_are_dice.nd
  exact (dss_cons (ds_ret (de_and (de_isi (de_var 0) fx.n_isinstance fx.n_tuple (by decide +kernel) (by decide)) (de_one (de_callB (cr_all rfl) callD_all (by decide +kernel) fx.n_all (da_cons (de_lc [("pair", 1)] (.one 1) rfl nd (by decide) (by exact blkB_ok (by kernel_rfl)) (di_seq (de_var 0)) (fun _ _ _ _ _ => (pg_name nd rfl (by first | exact .inl rfl | exact .inr rfl) (by first | exact .inl rfl | exact .inr rfl))) (fun _ _ _ _ _ => dts_nil) (fun _ _ _ _ _ => (de_and (de_callC (c_is_pair fx) b_is_pair hr (by omega) takes0 (da_cons (de_var 1) da_nil)) (de_and (de_callC (c_is_die fx) b_is_die hr (by omega) takes0 (da_cons (de_ix (de_var 1) de_int) da_nil)) (de_one (de_callC (c_is_die fx) b_is_die hr (by omega) takes0 (da_cons (de_ix (de_var 1) de_int) da_nil))))))) da_nil)))))
      dss_nil)
noncomputable def D_is_number : SDen := sSeq (sRet (dAnd (dFn 1 O_is_integer (dCons (dVar 0) (dNil))) (dBin oGe (dVar 0) (dC (.int 0))))) (sNil)
theorem Q_is_number : ∃ F : Op, F = fnOf ["thing"] D_is_number := ⟨_, rfl⟩
noncomputable def O_is_number : Op := Classical.choose Q_is_number
instance is_is_number : Is O_is_number ["thing"] D_is_number := ⟨Classical.choose_spec Q_is_number⟩
theorem sc_is_number : FnScope ["thing"] ["thing"] (defScope (top 3)) := ⟨rfl, rfl, rfl, by decide +kernel, rfl, by decide +kernel, by decide +kernel⟩
theorem b_is_number : BindsAll "is_number" (top 3) ["thing"] := fun _ _ _ _ _ _ us hl => match us, hl with | [_], _ => rfl
theorem c_is_number (fx : Facts K mg) : Callee P w K mg base 2 "is_number" (top 3) ["thing"] O_is_number := by
  obtain ⟨fd, F⟩ := fx.F_is_number
  refine ⟨fx.g_is_number, fd, F, ?_⟩
  rw [is_is_number.eq]
  refine fn_den F sc_is_number fun cdv A outer s H E hr tk => ?_
  have nd := sc_is_number.nd
  exact (dss_cons (ds_ret (de_and (de_callC (c_is_integer fx) b_is_integer hr (by omega) tk (da_cons (de_var 0) da_nil)) (de_one (de_ge (de_var 0) de_int))))
      dss_nil)
noncomputable def D_is_brink : SDen := sSeq (sRet (dAnd (dFn 1 O_is_pair (dCons (dVar 0) (dNil))) (dAnd (dFn 1 O_is_number (dCons (dBin oIx (dVar 0) (dC (.int 0))) (dNil))) (dAnd (dFn 1 O_is_amount (dCons (dBin oIx (dVar 0) (dC (.int 1))) (dNil))) (dFn 2 O_is_less (dCons (dBin oIx (dVar 0) (dC (.int 1))) (dCons (dTup (dCons (dC (.int 1)) (dCons (dC (.int 1)) (dNil)))) (dNil)))))))) (sNil)
theorem Q_is_brink : ∃ F : Op, F = fnOf ["thing"] D_is_brink := ⟨_, rfl⟩
noncomputable def O_is_brink : Op := Classical.choose Q_is_brink
instance is_is_brink : Is O_is_brink ["thing"] D_is_brink := ⟨Classical.choose_spec Q_is_brink⟩
theorem sc_is_brink : FnScope ["thing"] ["thing"] (defScope (top 22)) := ⟨rfl, rfl, rfl, by decide +kernel, rfl, by decide +kernel, by decide +kernel⟩
theorem b_is_brink : BindsAll "is_brink" (top 22) ["thing"] := fun _ _ _ _ _ _ us hl => match us, hl with | [_], _ => rfl
theorem c_is_brink (fx : Facts K mg) : Callee P w K mg base 6 "is_brink" (top 22) ["thing"] O_is_brink := by
  obtain ⟨fd, F⟩ := fx.F_is_brink
  refine ⟨fx.g_is_brink, fd, F, ?_⟩
  rw [is_is_brink.eq]
  refine fn_den F sc_is_brink fun cdv A outer s H E hr tk => ?_
  have nd := sc_is_brink.nd
  exact (dss_cons (ds_ret (de_and (de_callC (c_is_pair fx) b_is_pair hr (by omega) tk (da_cons (de_var 0) da_nil)) (de_and (de_callC (c_is_number fx) b_is_number hr (by omega) tk (da_cons (de_ix (de_var 0) de_int) da_nil)) (de_and (de_callC (c_is_amount fx) b_is_amount hr (by omega) tk (da_cons (de_ix (de_var 0) de_int) da_nil)) (de_one (de_callC (c_is_less fx) b_is_less hr (by omega) tk (da_cons (de_ix (de_var 0) de_int) (da_cons (de_tup (da_cons de_int (da_cons de_int da_nil))) da_nil))))))))
      dss_nil)
noncomputable def D_are_brinks : SDen := sSeq (sRet (dAnd (dIsi "tuple" (dVar 0)) (dCall oAll (dCons (dLc [1] (dItems (dVar 0)) (.one 1) (dYes) (dOr (dIsN (dVar 1)) (dFn 1 O_is_brink (dCons (dVar 1) (dNil))))) (dNil))))) (sNil)
theorem Q_are_brinks : ∃ F : Op, F = fnOf ["thing", "brink"] D_are_brinks := ⟨_, rfl⟩
noncomputable def O_are_brinks : Op := Classical.choose Q_are_brinks
instance is_are_brinks : Is O_are_brinks ["thing", "brink"] D_are_brinks := ⟨Classical.choose_spec Q_are_brinks⟩
theorem sc_are_brinks : FnScope ["thing", "brink"] ["thing"] (defScope (top 23)) := ⟨rfl, rfl, rfl, by decide +kernel, rfl, by decide +kernel, by decide +kernel⟩
theorem b_are_brinks : BindsAll "are_brinks" (top 23) ["thing"] := fun _ _ _ _ _ _ us hl => match us, hl with | [_], _ => rfl
theorem c_are_brinks (fx : Facts K mg) : Callee P w K mg base 7 "are_brinks" (top 23) ["thing"] O_are_brinks := by
  obtain ⟨fd, F⟩ := fx.F_are_brinks
  refine ⟨fx.g_are_brinks, fd, F, ?_⟩
  rw [is_are_brinks.eq]
  refine fn_den F sc_are_brinks fun cdv A outer s H E hr tk => ?_
  have nd := sc_are_brinks.nd
  exact (dss_cons (ds_ret (de_and (de_isi (de_var 0) fx.n_isinstance fx.n_tuple (by decide +kernel) (by decide)) (de_one (de_callB (cr_all rfl) callD_all (by decide +kernel) fx.n_all (da_cons (de_lc [("brink", 1)] (.one 1) rfl nd (by decide) (by exact blkB_ok (by kernel_rfl)) (di_seq (de_var 0)) (fun _ _ _ _ _ => (pg_name nd rfl (by first | exact .inl rfl | exact .inr rfl) (by first | exact .inl rfl | exact .inr rfl))) (fun _ _ _ _ _ => dts_nil) (fun _ _ _ _ _ => (de_or (de_isN (de_var 1)) (de_one (de_callC (c_is_brink fx) b_is_brink hr (by omega) takes0 (da_cons (de_var 1) da_nil)))))) da_nil)))))
      dss_nil)
noncomputable def D_is_brinks : SDen := sSeq (sRet (dAnd (dFn 1 O_are_brinks (dCons (dVar 1) (dNil))) (dBin oEq (dCall oLen (dCons (dVar 1) (dNil))) (dVar 0)))) (sNil)
theorem Q_is_brinks : ∃ F : Op, F = fnOf ["size", "thing"] D_is_brinks := ⟨_, rfl⟩
noncomputable def O_is_brinks : Op := Classical.choose Q_is_brinks
instance is_is_brinks : Is O_is_brinks ["size", "thing"] D_is_brinks := ⟨Classical.choose_spec Q_is_brinks⟩
theorem sc_is_brinks : FnScope ["size", "thing"] ["size", "thing"] (defScope (top 24)) := ⟨rfl, rfl, rfl, by decide +kernel, rfl, by decide +kernel, by decide +kernel⟩
theorem b_is_brinks : BindsAll "is_brinks" (top 24) ["size", "thing"] := fun _ _ _ _ _ _ us hl => match us, hl with | [_, _], _ => rfl
theorem c_is_brinks (fx : Facts K mg) : Callee P w K mg base 8 "is_brinks" (top 24) ["size", "thing"] O_is_brinks := by
  obtain ⟨fd, F⟩ := fx.F_is_brinks
  refine ⟨fx.g_is_brinks, fd, F, ?_⟩
  rw [is_is_brinks.eq]
  refine fn_den F sc_is_brinks fun cdv A outer s H E hr tk => ?_
  have nd := sc_is_brinks.nd
  exact (dss_cons (ds_ret (de_and (de_callC (c_are_brinks fx) b_are_brinks hr (by omega) tk (da_cons (de_var 1) da_nil)) (de_one (de_eq hr.units (de_len fx.n_len (da_cons (de_var 1) da_nil)) (de_var 0)))))
      dss_nil)
noncomputable def D_are_coins : SDen := sSeq (sIf (dNot (dTru (dIsi "tuple" (dVar 0)))) (sSeq (sRet (dC (.bl false))) (sNil)) (sNil)) (sSeq (sRet (dCall oAll (dCons (dLc [1] (dItems (dVar 0)) (.one 1) (dYes) (dAnd (dFn 1 O_is_amount (dCons (dVar 1) (dNil))) (dNot (dFn 2 O_is_less (dCons (dTup (dCons (dC (.int 1)) (dCons (dC (.int 1)) (dNil)))) (dCons (dVar 1) (dNil))))))) (dNil)))) (sNil))
theorem Q_are_coins : ∃ F : Op, F = fnOf ["thing", "coin"] D_are_coins := ⟨_, rfl⟩
noncomputable def O_are_coins : Op := Classical.choose Q_are_coins
instance is_are_coins : Is O_are_coins ["thing", "coin"] D_are_coins := ⟨Classical.choose_spec Q_are_coins⟩
theorem sc_are_coins : FnScope ["thing", "coin"] ["thing"] (defScope (top 26)) := ⟨rfl, rfl, rfl, by decide +kernel, rfl, by decide +kernel, by decide +kernel⟩
theorem b_are_coins : BindsAll "are_coins" (top 26) ["thing"] := fun _ _ _ _ _ _ us hl => match us, hl with | [_], _ => rfl
theorem c_are_coins (fx : Facts K mg) : Callee P w K mg base 6 "are_coins" (top 26) ["thing"] O_are_coins := by
  obtain ⟨fd, F⟩ := fx.F_are_coins
  refine ⟨fx.g_are_coins, fd, F, ?_⟩
  rw [is_are_coins.eq]
  refine fn_den F sc_are_coins fun cdv A outer s H E hr tk => ?_
  have nd := sc_are_coins.nd
  exact (dss_cons (ds_if (dt_not (dt_truth (de_isi (de_var 0) fx.n_isinstance fx.n_tuple (by decide +kernel) (by decide)))) (dss_cons (ds_ret de_bl)
      dss_nil) dss_nil)
      (dss_cons (ds_ret (de_callB (cr_all rfl) callD_all (by decide +kernel) fx.n_all (da_cons (de_lc [("coin", 1)] (.one 1) rfl nd (by decide) (by exact blkB_ok (by kernel_rfl)) (di_seq (de_var 0)) (fun _ _ _ _ _ => (pg_name nd rfl (by first | exact .inl rfl | exact .inr rfl) (by first | exact .inl rfl | exact .inr rfl))) (fun _ _ _ _ _ => dts_nil) (fun _ _ _ _ _ => (de_and (de_callC (c_is_amount fx) b_is_amount hr (by omega) takes0 (da_cons (de_var 1) da_nil)) (de_one (de_not (de_callC (c_is_less fx) b_is_less hr (by omega) takes0 (da_cons (de_tup (da_cons de_int (da_cons de_int da_nil))) (da_cons (de_var 1) da_nil)))))))) da_nil)))
      dss_nil))
noncomputable def D_is_coins : SDen := sSeq (sRet (dAnd (dFn 1 O_are_coins (dCons (dVar 1) (dNil))) (dBin oEq (dCall oLen (dCons (dVar 1) (dNil))) (dVar 0)))) (sNil)
theorem Q_is_coins : ∃ F : Op, F = fnOf ["size", "thing"] D_is_coins := ⟨_, rfl⟩
noncomputable def O_is_coins : Op := Classical.choose Q_is_coins
instance is_is_coins : Is O_is_coins ["size", "thing"] D_is_coins := ⟨Classical.choose_spec Q_is_coins⟩
theorem sc_is_coins : FnScope ["size", "thing"] ["size", "thing"] (defScope (top 27)) := ⟨rfl, rfl, rfl, by decide +kernel, rfl, by decide +kernel, by decide +kernel⟩
theorem b_is_coins : BindsAll "is_coins" (top 27) ["size", "thing"] := fun _ _ _ _ _ _ us hl => match us, hl with | [_, _], _ => rfl
theorem c_is_coins (fx : Facts K mg) : Callee P w K mg base 7 "is_coins" (top 27) ["size", "thing"] O_is_coins := by
  obtain ⟨fd, F⟩ := fx.F_is_coins
  refine ⟨fx.g_is_coins, fd, F, ?_⟩
  rw [is_is_coins.eq]
  refine fn_den F sc_is_coins fun cdv A outer s H E hr tk => ?_
  have nd := sc_is_coins.nd
  exact (dss_cons (ds_ret (de_and (de_callC (c_are_coins fx) b_are_coins hr (by omega) tk (da_cons (de_var 1) da_nil)) (de_one (de_eq hr.units (de_len fx.n_len (da_cons (de_var 1) da_nil)) (de_var 0)))))
      dss_nil)
noncomputable def D_next_by : SDen := sSeq (sAsg (dTup (dCons (dBin oIx (dBin oIx (dVar 0) (dC (.int 0))) (dVar 1)) (dCons (dBin oIx (dVar 0) (dC (.int 1))) (dNil)))) (PD.tTup 2 (PD.tCons (tName 3) (PD.tCons (tName 4) (PD.tNil))))) (sSeq (sSet 5 (dLc [6] (dRange1 (dCall oLen (dCons (dVar 3) (dNil)))) (.one 6) (dBin oLt (dBin oMul (dBin oIx (dVar 2) (dC (.int 0))) (dVar 4)) (dBin oMul (dCall oSum (dCons (dCut (dVar 3) none (some (dBin oPlus (dVar 6) (dC (.int 1))))) (dNil))) (dBin oIx (dVar 2) (dC (.int 1))))) (dVar 6))) (sSeq (sRet (dBin oIx (dVar 5) (dC (.int 0)))) (sNil)))
theorem Q_next_by : ∃ F : Op, F = fnOf ["web", "place", "die", "row", "bottom", "reached", "j"] D_next_by := ⟨_, rfl⟩
noncomputable def O_next_by : Op := Classical.choose Q_next_by
instance is_next_by : Is O_next_by ["web", "place", "die", "row", "bottom", "reached", "j"] D_next_by := ⟨Classical.choose_spec Q_next_by⟩
theorem sc_next_by : FnScope ["web", "place", "die", "row", "bottom", "reached", "j"] ["web", "place", "die"] (defScope (top 36)) := ⟨rfl, rfl, rfl, by decide +kernel, rfl, by decide +kernel, by decide +kernel⟩
theorem b_next_by : BindsAll "next_by" (top 36) ["web", "place", "die"] := fun _ _ _ _ _ _ us hl => match us, hl with | [_, _, _], _ => rfl
theorem c_next_by (fx : Facts K mg) : Callee P w K mg base 1 "next_by" (top 36) ["web", "place", "die"] O_next_by := by
  obtain ⟨fd, F⟩ := fx.F_next_by
  refine ⟨fx.g_next_by, fd, F, ?_⟩
  rw [is_next_by.eq]
  refine fn_den F sc_next_by fun cdv A outer s H E hr tk => ?_
  have nd := sc_next_by.nd
  exact (dss_cons (ds_asg (de_tup (da_cons (de_ix (de_ix (de_var 0) de_int) (de_var 1)) (da_cons (de_ix (de_var 0) de_int) da_nil))) (dg_tup rfl (dgs_cons (dg_name 3 nd) (dgs_cons (dg_name 4 nd) dgs_nil))))
      (dss_cons (ds_setLc 5 [("j", 6)] (.one 6) rfl nd (by decide) (by exact blkB_ok (by kernel_rfl)) (di_range1 fx.n_range (de_len fx.n_len (da_cons (de_var 3) da_nil))) (fun _ _ _ _ _ => (pg_name nd rfl (by first | exact .inl rfl | exact .inr rfl) (by first | exact .inl rfl | exact .inr rfl))) (fun _ _ _ _ _ => (dts_one (dt_lt (de_mul (de_ix (de_var 2) de_int) (de_var 4)) (de_mul (de_callB (call_sumA rfl) callD_sum (by decide +kernel) fx.n_sum (da_cons (de_cut (de_var 3) trivial (de_add (de_var 6) de_int)) da_nil)) (de_ix (de_var 2) de_int))))) (fun _ _ _ _ _ => (de_var 6)) (by rfl))
      (dss_cons (ds_ret (de_ix (de_var 5) de_int))
      dss_nil)))
noncomputable def D_is_below : SDen := sSeq (sRet (dAnd (dFn 1 O_is_number (dCons (dVar 1) (dNil))) (dBin oLt (dVar 1) (dVar 0)))) (sNil)
theorem Q_is_below : ∃ F : Op, F = fnOf ["size", "thing"] D_is_below := ⟨_, rfl⟩
noncomputable def O_is_below : Op := Classical.choose Q_is_below
instance is_is_below : Is O_is_below ["size", "thing"] D_is_below := ⟨Classical.choose_spec Q_is_below⟩
theorem sc_is_below : FnScope ["size", "thing"] ["size", "thing"] (defScope (top 4)) := ⟨rfl, rfl, rfl, by decide +kernel, rfl, by decide +kernel, by decide +kernel⟩
theorem b_is_below : BindsAll "is_below" (top 4) ["size", "thing"] := fun _ _ _ _ _ _ us hl => match us, hl with | [_, _], _ => rfl
theorem c_is_below (fx : Facts K mg) : Callee P w K mg base 3 "is_below" (top 4) ["size", "thing"] O_is_below := by
  obtain ⟨fd, F⟩ := fx.F_is_below
  refine ⟨fx.g_is_below, fd, F, ?_⟩
  rw [is_is_below.eq]
  refine fn_den F sc_is_below fun cdv A outer s H E hr tk => ?_
  have nd := sc_is_below.nd
  exact (dss_cons (ds_ret (de_and (de_callC (c_is_number fx) b_is_number hr (by omega) tk (da_cons (de_var 1) da_nil)) (de_one (de_lt (de_var 1) (de_var 0)))))
      dss_nil)
noncomputable def D_size_of : SDen := sSeq (sRet (dCall oLen (dCons (dBin oIx (dVar 0) (dC (.int 0))) (dNil)))) (sNil)
theorem Q_size_of : ∃ F : Op, F = fnOf ["web"] D_size_of := ⟨_, rfl⟩
noncomputable def O_size_of : Op := Classical.choose Q_size_of
instance is_size_of : Is O_size_of ["web"] D_size_of := ⟨Classical.choose_spec Q_size_of⟩
theorem sc_size_of : FnScope ["web"] ["web"] (defScope (top 15)) := ⟨rfl, rfl, rfl, by decide +kernel, rfl, by decide +kernel, by decide +kernel⟩
theorem b_size_of : BindsAll "size_of" (top 15) ["web"] := fun _ _ _ _ _ _ us hl => match us, hl with | [_], _ => rfl
theorem c_size_of (fx : Facts K mg) : Callee P w K mg base 1 "size_of" (top 15) ["web"] O_size_of := by
  obtain ⟨fd, F⟩ := fx.F_size_of
  refine ⟨fx.g_size_of, fd, F, ?_⟩
  rw [is_size_of.eq]
  refine fn_den F sc_size_of fun cdv A outer s H E hr tk => ?_
  have nd := sc_size_of.nd
  exact (dss_cons (ds_ret (de_len fx.n_len (da_cons (de_ix (de_var 0) de_int) da_nil)))
      dss_nil)
noncomputable def D_require_place : SDen := sSeq (sExpr (dFn 2 O_require (dCons (dFn 2 O_is_below (dCons (dFn 1 O_size_of (dCons (dVar 0) (dNil))) (dCons (dVar 1) (dNil)))) (dCons (dVar 2) (dNil))))) (sNil)
theorem Q_require_place : ∃ F : Op, F = fnOf ["web", "thing", "name"] D_require_place := ⟨_, rfl⟩
noncomputable def O_require_place : Op := Classical.choose Q_require_place
instance is_require_place : Is O_require_place ["web", "thing", "name"] D_require_place := ⟨Classical.choose_spec Q_require_place⟩
theorem sc_require_place : FnScope ["web", "thing", "name"] ["web", "thing", "name"] (defScope (top 17)) := ⟨rfl, rfl, rfl, by decide +kernel, rfl, by decide +kernel, by decide +kernel⟩
theorem b_require_place : BindsAll "require_place" (top 17) ["web", "thing", "name"] := fun _ _ _ _ _ _ us hl => match us, hl with | [_, _, _], _ => rfl
theorem c_require_place (fx : Facts K mg) : Callee P w K mg base 4 "require_place" (top 17) ["web", "thing", "name"] O_require_place := by
  obtain ⟨fd, F⟩ := fx.F_require_place
  refine ⟨fx.g_require_place, fd, F, ?_⟩
  rw [is_require_place.eq]
  refine fn_den F sc_require_place fun cdv A outer s H E hr tk => ?_
  have nd := sc_require_place.nd
  exact (dss_cons (ds_expr (de_callC (c_require fx) b_require hr (by omega) tk (da_cons (de_callC (c_is_below fx) b_is_below hr (by omega) tk (da_cons (de_callC (c_size_of fx) b_size_of hr (by omega) tk (da_cons (de_var 0) da_nil)) (da_cons (de_var 1) da_nil))) (da_cons (de_var 2) da_nil))))
      dss_nil)
noncomputable def D_require_die : SDen := sSeq (sExpr (dFn 2 O_require (dCons (dFn 1 O_is_die (dCons (dVar 0) (dNil))) (dCons (dC (.str "die")) (dNil))))) (sNil)
theorem Q_require_die : ∃ F : Op, F = fnOf ["die"] D_require_die := ⟨_, rfl⟩
noncomputable def O_require_die : Op := Classical.choose Q_require_die
instance is_require_die : Is O_require_die ["die"] D_require_die := ⟨Classical.choose_spec Q_require_die⟩
theorem sc_require_die : FnScope ["die"] ["die"] (defScope (top 30)) := ⟨rfl, rfl, rfl, by decide +kernel, rfl, by decide +kernel, by decide +kernel⟩
theorem b_require_die : BindsAll "require_die" (top 30) ["die"] := fun _ _ _ _ _ _ us hl => match us, hl with | [_], _ => rfl
theorem c_require_die (fx : Facts K mg) : Callee P w K mg base 7 "require_die" (top 30) ["die"] O_require_die := by
  obtain ⟨fd, F⟩ := fx.F_require_die
  refine ⟨fx.g_require_die, fd, F, ?_⟩
  rw [is_require_die.eq]
  refine fn_den F sc_require_die fun cdv A outer s H E hr tk => ?_
  have nd := sc_require_die.nd
  exact (dss_cons (ds_expr (de_callC (c_require fx) b_require hr (by omega) tk (da_cons (de_callC (c_is_die fx) b_is_die hr (by omega) tk (da_cons (de_var 0) da_nil)) (da_cons de_str da_nil))))
      dss_nil)
noncomputable def D_coin_word : SDen := sSeq (sExpr (dFn 2 O_require (dCons (dAnd (dFn 1 O_are_coins (dCons (dVar 0) (dNil))) (dBin oGt (dCall oLen (dCons (dVar 0) (dNil))) (dC (.int 0)))) (dCons (dC (.str "coins")) (dNil))))) (sSeq (sExpr (dFn 2 O_require (dCons (dFn 2 O_is_below (dCons (dCall oLen (dCons (dVar 0) (dNil))) (dCons (dVar 1) (dNil)))) (dCons (dC (.str "place")) (dNil))))) (sSeq (sExpr (dFn 1 O_require_die (dCons (dVar 2) (dNil)))) (sSeq (sRet (dIf (dTru (dFn 2 O_is_less (dCons (dVar 2) (dCons (dBin oIx (dVar 0) (dVar 1)) (dNil))))) (dC (.str "stay")) (dC (.str "go")))) (sNil))))
theorem Q_coin_word : ∃ F : Op, F = fnOf ["coins", "place", "die"] D_coin_word := ⟨_, rfl⟩
noncomputable def O_coin_word : Op := Classical.choose Q_coin_word
instance is_coin_word : Is O_coin_word ["coins", "place", "die"] D_coin_word := ⟨Classical.choose_spec Q_coin_word⟩
theorem sc_coin_word : FnScope ["coins", "place", "die"] ["coins", "place", "die"] (defScope (top 35)) := ⟨rfl, rfl, rfl, by decide +kernel, rfl, by decide +kernel, by decide +kernel⟩
theorem b_coin_word : BindsAll "coin_word" (top 35) ["coins", "place", "die"] := fun _ _ _ _ _ _ us hl => match us, hl with | [_, _, _], _ => rfl
theorem bk_coin_word_die_place_coins : BindsKw "coin_word" (top 35) ["coins", "place", "die"] ["die", "place", "coins"] [2, 1, 0] := fun _ _ _ _ _ _ us hl => match us, hl with | [_, _, _], _ => rfl
theorem c_coin_word (fx : Facts K mg) : Callee P w K mg base 8 "coin_word" (top 35) ["coins", "place", "die"] O_coin_word := by
  obtain ⟨fd, F⟩ := fx.F_coin_word
  refine ⟨fx.g_coin_word, fd, F, ?_⟩
  rw [is_coin_word.eq]
  refine fn_den F sc_coin_word fun cdv A outer s H E hr tk => ?_
  have nd := sc_coin_word.nd
  exact (dss_cons (ds_expr (de_callC (c_require fx) b_require hr (by omega) tk (da_cons (de_and (de_callC (c_are_coins fx) b_are_coins hr (by omega) tk (da_cons (de_var 0) da_nil)) (de_one (de_gt (de_len fx.n_len (da_cons (de_var 0) da_nil)) de_int))) (da_cons de_str da_nil))))
      (dss_cons (ds_expr (de_callC (c_require fx) b_require hr (by omega) tk (da_cons (de_callC (c_is_below fx) b_is_below hr (by omega) tk (da_cons (de_len fx.n_len (da_cons (de_var 0) da_nil)) (da_cons (de_var 1) da_nil))) (da_cons de_str da_nil))))
      (dss_cons (ds_expr (de_callC (c_require_die fx) b_require_die hr (by omega) tk (da_cons (de_var 2) da_nil)))
      (dss_cons (ds_ret (de_if (dt_truth (de_callC (c_is_less fx) b_is_less hr (by omega) tk (da_cons (de_var 2) (da_cons (de_ix (de_var 0) (de_var 1)) da_nil)))) de_str de_str))
      dss_nil))))
noncomputable def D_is_early : SDen := sSeq (sIf (dOr (dIsN (dVar 0)) (dBin oLt (dVar 1) (dBin oIx (dVar 0) (dC (.int 0))))) (sSeq (sRet (dC (.bl true))) (sNil)) (sNil)) (sSeq (sRet (dAnd (dBin oEq (dVar 1) (dBin oIx (dVar 0) (dC (.int 0)))) (dFn 2 O_is_less (dCons (dVar 2) (dCons (dBin oIx (dVar 0) (dC (.int 1))) (dNil)))))) (sNil))
theorem Q_is_early : ∃ F : Op, F = fnOf ["brink", "moment", "die"] D_is_early := ⟨_, rfl⟩
noncomputable def O_is_early : Op := Classical.choose Q_is_early
instance is_is_early : Is O_is_early ["brink", "moment", "die"] D_is_early := ⟨Classical.choose_spec Q_is_early⟩
theorem sc_is_early : FnScope ["brink", "moment", "die"] ["brink", "moment", "die"] (defScope (top 31)) := ⟨rfl, rfl, rfl, by decide +kernel, rfl, by decide +kernel, by decide +kernel⟩
theorem b_is_early : BindsAll "is_early" (top 31) ["brink", "moment", "die"] := fun _ _ _ _ _ _ us hl => match us, hl with | [_, _, _], _ => rfl
theorem c_is_early (fx : Facts K mg) : Callee P w K mg base 6 "is_early" (top 31) ["brink", "moment", "die"] O_is_early := by
  obtain ⟨fd, F⟩ := fx.F_is_early
  refine ⟨fx.g_is_early, fd, F, ?_⟩
  rw [is_is_early.eq]
  refine fn_den F sc_is_early fun cdv A outer s H E hr tk => ?_
  have nd := sc_is_early.nd
  exact (dss_cons (ds_if (DW.dt (dw_or (dt_isN (de_var 0)) (dw_or1 (dt_lt (de_var 1) (de_ix (de_var 0) de_int))))) (dss_cons (ds_ret de_bl)
      dss_nil) dss_nil)
      (dss_cons (ds_ret (de_and (de_eq hr.units (de_var 1) (de_ix (de_var 0) de_int)) (de_one (de_callC (c_is_less fx) b_is_less hr (by omega) tk (da_cons (de_var 2) (da_cons (de_ix (de_var 0) de_int) da_nil))))))
      dss_nil))
noncomputable def D_require_number : SDen := sSeq (sExpr (dFn 2 O_require (dCons (dFn 1 O_is_number (dCons (dVar 0) (dNil))) (dCons (dVar 1) (dNil))))) (sNil)
theorem Q_require_number : ∃ F : Op, F = fnOf ["thing", "name"] D_require_number := ⟨_, rfl⟩
noncomputable def O_require_number : Op := Classical.choose Q_require_number
instance is_require_number : Is O_require_number ["thing", "name"] D_require_number := ⟨Classical.choose_spec Q_require_number⟩
theorem sc_require_number : FnScope ["thing", "name"] ["thing", "name"] (defScope (top 16)) := ⟨rfl, rfl, rfl, by decide +kernel, rfl, by decide +kernel, by decide +kernel⟩
theorem b_require_number : BindsAll "require_number" (top 16) ["thing", "name"] := fun _ _ _ _ _ _ us hl => match us, hl with | [_, _], _ => rfl
theorem c_require_number (fx : Facts K mg) : Callee P w K mg base 4 "require_number" (top 16) ["thing", "name"] O_require_number := by
  obtain ⟨fd, F⟩ := fx.F_require_number
  refine ⟨fx.g_require_number, fd, F, ?_⟩
  rw [is_require_number.eq]
  refine fn_den F sc_require_number fun cdv A outer s H E hr tk => ?_
  have nd := sc_require_number.nd
  exact (dss_cons (ds_expr (de_callC (c_require fx) b_require hr (by omega) tk (da_cons (de_callC (c_is_number fx) b_is_number hr (by omega) tk (da_cons (de_var 0) da_nil)) (da_cons (de_var 1) da_nil))))
      dss_nil)
noncomputable def D_require_brink_word : SDen := sSeq (sExpr (dFn 2 O_require (dCons (dAnd (dFn 1 O_are_brinks (dCons (dVar 0) (dNil))) (dBin oGt (dCall oLen (dCons (dVar 0) (dNil))) (dC (.int 0)))) (dCons (dC (.str "brinks")) (dNil))))) (sSeq (sExpr (dFn 2 O_require (dCons (dFn 2 O_is_below (dCons (dCall oLen (dCons (dVar 0) (dNil))) (dCons (dVar 1) (dNil)))) (dCons (dC (.str "place")) (dNil))))) (sSeq (sExpr (dFn 2 O_require_number (dCons (dVar 2) (dCons (dC (.str "many")) (dNil))))) (sSeq (sExpr (dFn 1 O_require_die (dCons (dVar 3) (dNil)))) (sNil))))
theorem Q_require_brink_word : ∃ F : Op, F = fnOf ["brinks", "place", "many", "die"] D_require_brink_word := ⟨_, rfl⟩
noncomputable def O_require_brink_word : Op := Classical.choose Q_require_brink_word
instance is_require_brink_word : Is O_require_brink_word ["brinks", "place", "many", "die"] D_require_brink_word := ⟨Classical.choose_spec Q_require_brink_word⟩
theorem sc_require_brink_word : FnScope ["brinks", "place", "many", "die"] ["brinks", "place", "many", "die"] (defScope (top 32)) := ⟨rfl, rfl, rfl, by decide +kernel, rfl, by decide +kernel, by decide +kernel⟩
theorem b_require_brink_word : BindsAll "require_brink_word" (top 32) ["brinks", "place", "many", "die"] := fun _ _ _ _ _ _ us hl => match us, hl with | [_, _, _, _], _ => rfl
theorem c_require_brink_word (fx : Facts K mg) : Callee P w K mg base 8 "require_brink_word" (top 32) ["brinks", "place", "many", "die"] O_require_brink_word := by
  obtain ⟨fd, F⟩ := fx.F_require_brink_word
  refine ⟨fx.g_require_brink_word, fd, F, ?_⟩
  rw [is_require_brink_word.eq]
  refine fn_den F sc_require_brink_word fun cdv A outer s H E hr tk => ?_
  have nd := sc_require_brink_word.nd
  exact (dss_cons (ds_expr (de_callC (c_require fx) b_require hr (by omega) tk (da_cons (de_and (de_callC (c_are_brinks fx) b_are_brinks hr (by omega) tk (da_cons (de_var 0) da_nil)) (de_one (de_gt (de_len fx.n_len (da_cons (de_var 0) da_nil)) de_int))) (da_cons de_str da_nil))))
      (dss_cons (ds_expr (de_callC (c_require fx) b_require hr (by omega) tk (da_cons (de_callC (c_is_below fx) b_is_below hr (by omega) tk (da_cons (de_len fx.n_len (da_cons (de_var 0) da_nil)) (da_cons (de_var 1) da_nil))) (da_cons de_str da_nil))))
      (dss_cons (ds_expr (de_callC (c_require_number fx) b_require_number hr (by omega) tk (da_cons (de_var 2) (da_cons de_str da_nil))))
      (dss_cons (ds_expr (de_callC (c_require_die fx) b_require_die hr (by omega) tk (da_cons (de_var 3) da_nil)))
      dss_nil))))
noncomputable def D_go_word : SDen := sSeq (sExpr (dFn 4 O_require_brink_word (dCons (dVar 0) (dCons (dVar 1) (dCons (dVar 2) (dCons (dVar 3) (dNil))))))) (sSeq (sRet (dIf (dTru (dFn 3 O_is_early (dCons (dBin oIx (dVar 0) (dVar 1)) (dCons (dVar 2) (dCons (dVar 3) (dNil)))))) (dC (.str "go")) (dC (.str "stay")))) (sNil))
theorem Q_go_word : ∃ F : Op, F = fnOf ["brinks", "place", "many", "die"] D_go_word := ⟨_, rfl⟩
noncomputable def O_go_word : Op := Classical.choose Q_go_word
instance is_go_word : Is O_go_word ["brinks", "place", "many", "die"] D_go_word := ⟨Classical.choose_spec Q_go_word⟩
theorem sc_go_word : FnScope ["brinks", "place", "many", "die"] ["brinks", "place", "many", "die"] (defScope (top 33)) := ⟨rfl, rfl, rfl, by decide +kernel, rfl, by decide +kernel, by decide +kernel⟩
theorem b_go_word : BindsAll "go_word" (top 33) ["brinks", "place", "many", "die"] := fun _ _ _ _ _ _ us hl => match us, hl with | [_, _, _, _], _ => rfl
theorem bk_go_word_many_die_brinks_place : BindsKw "go_word" (top 33) ["brinks", "place", "many", "die"] ["many", "die", "brinks", "place"] [2, 3, 0, 1] := fun _ _ _ _ _ _ us hl => match us, hl with | [_, _, _, _], _ => rfl
theorem c_go_word (fx : Facts K mg) : Callee P w K mg base 9 "go_word" (top 33) ["brinks", "place", "many", "die"] O_go_word := by
  obtain ⟨fd, F⟩ := fx.F_go_word
  refine ⟨fx.g_go_word, fd, F, ?_⟩
  rw [is_go_word.eq]
  refine fn_den F sc_go_word fun cdv A outer s H E hr tk => ?_
  have nd := sc_go_word.nd
  exact (dss_cons (ds_expr (de_callC (c_require_brink_word fx) b_require_brink_word hr (by omega) tk (da_cons (de_var 0) (da_cons (de_var 1) (da_cons (de_var 2) (da_cons (de_var 3) da_nil))))))
      (dss_cons (ds_ret (de_if (dt_truth (de_callC (c_is_early fx) b_is_early hr (by omega) tk (da_cons (de_ix (de_var 0) (de_var 1)) (da_cons (de_var 2) (da_cons (de_var 3) da_nil))))) de_str de_str))
      dss_nil))
noncomputable def D_stay_word : SDen := sSeq (sExpr (dFn 4 O_require_brink_word (dCons (dVar 0) (dCons (dVar 1) (dCons (dVar 2) (dCons (dVar 3) (dNil))))))) (sSeq (sRet (dIf (dTru (dFn 3 O_is_early (dCons (dBin oIx (dVar 0) (dVar 1)) (dCons (dVar 2) (dCons (dVar 3) (dNil)))))) (dC (.str "stay")) (dC (.str "go")))) (sNil))
theorem Q_stay_word : ∃ F : Op, F = fnOf ["brinks", "place", "many", "die"] D_stay_word := ⟨_, rfl⟩
noncomputable def O_stay_word : Op := Classical.choose Q_stay_word
instance is_stay_word : Is O_stay_word ["brinks", "place", "many", "die"] D_stay_word := ⟨Classical.choose_spec Q_stay_word⟩
theorem sc_stay_word : FnScope ["brinks", "place", "many", "die"] ["brinks", "place", "many", "die"] (defScope (top 34)) := ⟨rfl, rfl, rfl, by decide +kernel, rfl, by decide +kernel, by decide +kernel⟩
theorem b_stay_word : BindsAll "stay_word" (top 34) ["brinks", "place", "many", "die"] := fun _ _ _ _ _ _ us hl => match us, hl with | [_, _, _, _], _ => rfl
theorem bk_stay_word_die_many_place_brinks : BindsKw "stay_word" (top 34) ["brinks", "place", "many", "die"] ["die", "many", "place", "brinks"] [3, 2, 1, 0] := fun _ _ _ _ _ _ us hl => match us, hl with | [_, _, _, _], _ => rfl
theorem c_stay_word (fx : Facts K mg) : Callee P w K mg base 9 "stay_word" (top 34) ["brinks", "place", "many", "die"] O_stay_word := by
  obtain ⟨fd, F⟩ := fx.F_stay_word
  refine ⟨fx.g_stay_word, fd, F, ?_⟩
  rw [is_stay_word.eq]
  refine fn_den F sc_stay_word fun cdv A outer s H E hr tk => ?_
  have nd := sc_stay_word.nd
  exact (dss_cons (ds_expr (de_callC (c_require_brink_word fx) b_require_brink_word hr (by omega) tk (da_cons (de_var 0) (da_cons (de_var 1) (da_cons (de_var 2) (da_cons (de_var 3) da_nil))))))
      (dss_cons (ds_ret (de_if (dt_truth (de_callC (c_is_early fx) b_is_early hr (by omega) tk (da_cons (de_ix (de_var 0) (de_var 1)) (da_cons (de_var 2) (da_cons (de_var 3) da_nil))))) de_str de_str))
      dss_nil))
noncomputable def D_word_by : SDen := sSeq (sIf (dBin oEq (dVar 0) (dC (.str "go"))) (sSeq (sRet (dFn 4 O_go_word (dCons (dVar 1) (dCons (dVar 2) (dCons (dVar 3) (dCons (dVar 4) (dNil))))))) (sNil)) (sNil)) (sSeq (sIf (dBin oEq (dVar 0) (dC (.str "stay"))) (sSeq (sRet (dFn 4 O_stay_word (dCons (dVar 1) (dCons (dVar 2) (dCons (dVar 3) (dCons (dVar 4) (dNil))))))) (sNil)) (sNil)) (sSeq (sRet (dFn 3 O_coin_word (dCons (dVar 1) (dCons (dVar 2) (dCons (dVar 4) (dNil)))))) (sNil)))
theorem Q_word_by : ∃ F : Op, F = fnOf ["manner", "marks", "place", "moment", "die"] D_word_by := ⟨_, rfl⟩
noncomputable def O_word_by : Op := Classical.choose Q_word_by
instance is_word_by : Is O_word_by ["manner", "marks", "place", "moment", "die"] D_word_by := ⟨Classical.choose_spec Q_word_by⟩
theorem sc_word_by : FnScope ["manner", "marks", "place", "moment", "die"] ["manner", "marks", "place", "moment", "die"] (defScope (top 39)) := ⟨rfl, rfl, rfl, by decide +kernel, rfl, by decide +kernel, by decide +kernel⟩
theorem b_word_by : BindsAll "word_by" (top 39) ["manner", "marks", "place", "moment", "die"] := fun _ _ _ _ _ _ us hl => match us, hl with | [_, _, _, _, _], _ => rfl
theorem c_word_by (fx : Facts K mg) : Callee P w K mg base 10 "word_by" (top 39) ["manner", "marks", "place", "moment", "die"] O_word_by := by
  obtain ⟨fd, F⟩ := fx.F_word_by
  refine ⟨fx.g_word_by, fd, F, ?_⟩
  rw [is_word_by.eq]
  refine fn_den F sc_word_by fun cdv A outer s H E hr tk => ?_
  have nd := sc_word_by.nd
  exact (dss_cons (ds_if (dt_eq hr.units (de_var 0) de_str) (dss_cons (ds_ret (de_callC (c_go_word fx) b_go_word hr (by omega) tk (da_cons (de_var 1) (da_cons (de_var 2) (da_cons (de_var 3) (da_cons (de_var 4) da_nil))))))
      dss_nil) dss_nil)
      (dss_cons (ds_if (dt_eq hr.units (de_var 0) de_str) (dss_cons (ds_ret (de_callC (c_stay_word fx) b_stay_word hr (by omega) tk (da_cons (de_var 1) (da_cons (de_var 2) (da_cons (de_var 3) (da_cons (de_var 4) da_nil))))))
      dss_nil) dss_nil)
      (dss_cons (ds_ret (de_callC (c_coin_word fx) b_coin_word hr (by omega) tk (da_cons (de_var 1) (da_cons (de_var 2) (da_cons (de_var 4) da_nil)))))
      dss_nil)))
noncomputable def D_led : SDen := sSeq (sSet 5 (dFn 1 O_size_of (dCons (dVar 0) (dNil)))) (sSeq (sExpr (dFn 2 O_require (dCons (dBin oIn (dVar 1) (dTup (dCons (dC (.str "go")) (dCons (dC (.str "stay")) (dCons (dC (.str "coin")) (dNil)))))) (dCons (dC (.str "manner")) (dNil))))) (sSeq (sExpr (dFn 2 O_require (dCons (dIf (dBin oEq (dVar 1) (dC (.str "coin"))) (dFn 2 O_is_coins (dCons (dVar 5) (dCons (dVar 2) (dNil)))) (dFn 2 O_is_brinks (dCons (dVar 5) (dCons (dVar 2) (dNil))))) (dCons (dC (.str "marks")) (dNil))))) (sSeq (sExpr (dFn 3 O_require_place (dCons (dVar 0) (dCons (dVar 3) (dCons (dC (.str "place")) (dNil)))))) (sSeq (sExpr (dFn 2 O_require (dCons (dFn 1 O_are_dice (dCons (dVar 4) (dNil))) (dCons (dC (.str "dice")) (dNil))))) (sSeq (sSet 6 (dLstM (dCons (dVar 3) (dNil)))) (sSeq (sFor (dEnumA (dVar 4)) (PD.tTup 2 (PD.tCons (tName 7) (PD.tCons (PD.tTup 2 (PD.tCons (tName 8) (PD.tCons (tName 9) (PD.tNil)))) (PD.tNil)))) (sSeq (sIf (dBin oEq (dFn 5 O_word_by (dCons (dVar 1) (dCons (dVar 2) (dCons (dBin oIx (dVar 6) (dUn oNeg (dC (.int 1)))) (dCons (dVar 7) (dCons (dVar 8) (dNil))))))) (dC (.str "stay"))) (sSeq (sRet (dTup (dCons (dCall oTuple1 (dCons (dVar 6) (dNil))) (dCons (dC (.bl true)) (dNil))))) (sNil)) (sNil)) (sSeq (sExpr (dApp (dVar 6) (dFn 3 O_next_by (dCons (dVar 0) (dCons (dBin oIx (dVar 6) (dUn oNeg (dC (.int 1)))) (dCons (dVar 9) (dNil))))))) (sNil)))) (sSeq (sRet (dTup (dCons (dCall oTuple1 (dCons (dVar 6) (dNil))) (dCons (dC (.bl false)) (dNil))))) (sNil))))))))
theorem Q_led : ∃ F : Op, F = fnOf ["web", "manner", "marks", "place", "dice", "size", "way", "moment", "first", "second"] D_led := ⟨_, rfl⟩
noncomputable def O_led : Op := Classical.choose Q_led
instance is_led : Is O_led ["web", "manner", "marks", "place", "dice", "size", "way", "moment", "first", "second"] D_led := ⟨Classical.choose_spec Q_led⟩
theorem sc_led : FnScope ["web", "manner", "marks", "place", "dice", "size", "way", "moment", "first", "second"] ["web", "manner", "marks", "place", "dice"] (defScope (top 40)) := ⟨rfl, rfl, rfl, by decide +kernel, rfl, by decide +kernel, by decide +kernel⟩
theorem b_led : BindsAll "led" (top 40) ["web", "manner", "marks", "place", "dice"] := fun _ _ _ _ _ _ us hl => match us, hl with | [_, _, _, _, _], _ => rfl
theorem bk_led_dice_place_marks_manner_web : BindsKw "led" (top 40) ["web", "manner", "marks", "place", "dice"] ["dice", "place", "marks", "manner", "web"] [4, 3, 2, 1, 0] := fun _ _ _ _ _ _ us hl => match us, hl with | [_, _, _, _, _], _ => rfl
theorem c_led (fx : Facts K mg) : Callee P w K mg base 11 "led" (top 40) ["web", "manner", "marks", "place", "dice"] O_led := by
  obtain ⟨fd, F⟩ := fx.F_led
  refine ⟨fx.g_led, fd, F, ?_⟩
  rw [is_led.eq]
  refine fn_den F sc_led fun cdv A outer s H E hr tk => ?_
  have nd := sc_led.nd
  exact (dss_cons (ds_set 5 nd (de_callC (c_size_of fx) b_size_of hr (by omega) tk (da_cons (de_var 0) da_nil)))
      (dss_cons (ds_expr (de_callC (c_require fx) b_require hr (by omega) tk (da_cons (de_in hr.units (de_var 1) (de_tup (da_cons de_str (da_cons de_str (da_cons de_str da_nil))))) (da_cons de_str da_nil))))
      (dss_cons (ds_expr (de_callC (c_require fx) b_require hr (by omega) tk (da_cons (de_if (dt_eq hr.units (de_var 1) de_str) (de_callC (c_is_coins fx) b_is_coins hr (by omega) tk (da_cons (de_var 5) (da_cons (de_var 2) da_nil))) (de_callC (c_is_brinks fx) b_is_brinks hr (by omega) tk (da_cons (de_var 5) (da_cons (de_var 2) da_nil)))) (da_cons de_str da_nil))))
      (dss_cons (ds_expr (de_callC (c_require_place fx) b_require_place hr (by omega) tk (da_cons (de_var 0) (da_cons (de_var 3) (da_cons de_str da_nil)))))
      (dss_cons (ds_expr (de_callC (c_require fx) b_require hr (by omega) tk (da_cons (de_callC (c_are_dice fx) b_are_dice hr (by omega) tk (da_cons (de_var 4) da_nil)) (da_cons de_str da_nil))))
      (dss_cons (ds_set 6 nd (de_lstM (da_cons (de_var 3) da_nil)))
      (dss_cons (ds_for (L2.passes_of rfl) rfl (di_enumA fx.n_enumerate (de_var 4)) (dg_tup rfl (dgs_cons (dg_name 7 nd) (dgs_cons (dg_tup rfl (dgs_cons (dg_name 8 nd) (dgs_cons (dg_name 9 nd) dgs_nil))) dgs_nil))) (dss_cons (ds_if (dt_eq hr.units (de_callC (c_word_by fx) b_word_by hr (by omega) tk (da_cons (de_var 1) (da_cons (de_var 2) (da_cons (de_ix (de_var 6) (de_neg de_int)) (da_cons (de_var 7) (da_cons (de_var 8) da_nil)))))) de_str) (dss_cons (ds_ret (de_tup (da_cons (de_callTy call_tuple_of callD_tuple1 (by decide +kernel) fx.n_tuple (da_cons (de_var 6) da_nil)) (da_cons de_bl da_nil))))
      dss_nil) dss_nil)
      (dss_cons (ds_expr (de_app (de_var 6) (de_callC (c_next_by fx) b_next_by hr (by omega) tk (da_cons (de_var 0) (da_cons (de_ix (de_var 6) (de_neg de_int)) (da_cons (de_var 9) da_nil))))))
      dss_nil)))
      (dss_cons (ds_ret (de_tup (da_cons (de_callTy call_tuple_of callD_tuple1 (by decide +kernel) fx.n_tuple (da_cons (de_var 6) da_nil)) (da_cons de_bl da_nil))))
      dss_nil))))))))
noncomputable def D__law_all_dice : SDen := sSeq (sSet 6 (dCall oLen (dCons (dBin oIx (dVar 0) (dC (.int 0))) (dNil)))) (sSeq (sSet 7 (dLc [8] (dRange1 (dVar 4)) (.one 8) (dYes) (dFn 2 O__law_lowest (dCons (dVar 8) (dCons (dVar 4) (dNil)))))) (sSeq (sSet 9 (dLcM [10] (dRange1 (dVar 5)) (.one 10) (dYes) (dLcM [11] (dRange1 (dVar 6)) (.one 11) (dYes) (dC (.int 0))))) (sSeq (sSet 12 (dLcM [10] (dRange1 (dVar 5)) (.one 10) (dYes) (dLcM [11] (dRange1 (dVar 6)) (.one 11) (dYes) (dC (.int 0))))) (sSeq (sSet 13 (dLcM [11] (dRange1 (dVar 6)) (.one 11) (dYes) (dC (.int 0)))) (sSeq (sFor (dRange1 (dBin oIx (dLst (dCons (dC (.int 1)) (dCons (dBin oPow (dVar 4) (dC (.int 2))) (dCons (dBin oPow (dVar 4) (dC (.int 4))) (dCons (dBin oPow (dVar 4) (dC (.int 6))) (dCons (dBin oPow (dVar 4) (dC (.int 8))) (dNil))))))) (dVar 5))) (tName 14) (sSeq (sSet 15 (dLstM (dNil))) (sSeq (sFor (dRange1 (dVar 5)) (tName 10) (sSeq (sExpr (dApp (dVar 15) (dTup (dCons (dBin oIx (dVar 7) (dBin oMod (dCall oInt1 (dCons (dVar 14) (dNil))) (dVar 4))) (dCons (dBin oIx (dVar 7) (dBin oMod (dCall oInt1 (dCons (dBin oDiv (dVar 14) (dVar 4)) (dNil))) (dVar 4))) (dNil)))))) (sSeq (sSet 14 (dBin oDiv (dVar 14) (dBin oMul (dVar 4) (dVar 4)))) (sNil)))) (sSeq (sSet 16 (dFn 5 O_led (dCons (dVar 0) (dCons (dVar 1) (dCons (dVar 2) (dCons (dVar 3) (dCons (dCall oTuple1 (dCons (dVar 15) (dNil))) (dNil)))))))) (sSeq (sIf (dNot (dTru (dFn 4 O__law_is_led (dCons (dVar 16) (dCons (dVar 6) (dCons (dVar 5) (dCons (dVar 3) (dNil)))))))) (sSeq (sRet (dC (.bl false))) (sNil)) (sNil)) (sSeq (sSet 17 (dBin oIx (dVar 16) (dC (.int 0)))) (sSeq (sFor (dRange1 (dBin oSub (dCall oLen (dCons (dVar 17) (dNil))) (dC (.int 1)))) (tName 10) (sSeq (sStore (dBin oPlus (dBin oIx (dBin oIx (dVar 9) (dVar 10)) (dBin oIx (dVar 17) (dVar 10))) (dC (.int 1))) (dBin oIx (dVar 9) (dVar 10)) (dBin oIx (dVar 17) (dVar 10))) (sNil))) (sSeq (sSet 18 (dBin oSub (dCall oLen (dCons (dVar 17) (dNil))) (dC (.int 1)))) (sSeq (sIf (dTru (dBin oIx (dVar 16) (dC (.int 1)))) (sSeq (sStore (dBin oPlus (dBin oIx (dBin oIx (dVar 12) (dVar 18)) (dBin oIx (dVar 17) (dVar 18))) (dC (.int 1))) (dBin oIx (dVar 12) (dVar 18)) (dBin oIx (dVar 17) (dVar 18))) (sNil)) (sSeq (sStore (dBin oPlus (dBin oIx (dVar 13) (dBin oIx (dVar 17) (dVar 18))) (dC (.int 1))) (dVar 13) (dBin oIx (dVar 17) (dVar 18))) (sNil))) (sNil)))))))))) (sSeq (sRet (dBin oEq (dTup (dCons (dVar 9) (dCons (dVar 12) (dCons (dVar 13) (dNil))))) (dFn 6 O__law_dues (dCons (dVar 0) (dCons (dVar 1) (dCons (dVar 2) (dCons (dVar 3) (dCons (dVar 4) (dCons (dVar 5) (dNil)))))))))) (sNil)))))))
theorem Q__law_all_dice : ∃ F : Op, F = fnOf ["_law_web_here", "_law_manner", "_law_marks", "_law_place", "_law_bottom", "_law_many", "_law_size", "_law_dice", "_law_k", "_law_goes", "_law_t", "_law_i", "_law_stays", "_law_stands", "_law_code", "_law_pairs", "_law_told", "_law_way", "_law_last"] D__law_all_dice := ⟨_, rfl⟩
noncomputable def O__law_all_dice : Op := Classical.choose Q__law_all_dice
instance is__law_all_dice : Is O__law_all_dice ["_law_web_here", "_law_manner", "_law_marks", "_law_place", "_law_bottom", "_law_many", "_law_size", "_law_dice", "_law_k", "_law_goes", "_law_t", "_law_i", "_law_stays", "_law_stands", "_law_code", "_law_pairs", "_law_told", "_law_way", "_law_last"] D__law_all_dice := ⟨Classical.choose_spec Q__law_all_dice⟩
theorem sc__law_all_dice : FnScope ["_law_web_here", "_law_manner", "_law_marks", "_law_place", "_law_bottom", "_law_many", "_law_size", "_law_dice", "_law_k", "_law_goes", "_law_t", "_law_i", "_law_stays", "_law_stands", "_law_code", "_law_pairs", "_law_told", "_law_way", "_law_last"] ["_law_web_here", "_law_manner", "_law_marks", "_law_place", "_law_bottom", "_law_many"] (defScope (top 51)) := ⟨rfl, rfl, rfl, by decide +kernel, rfl, by decide +kernel, by decide +kernel⟩
theorem b__law_all_dice : BindsAll "_law_all_dice" (top 51) ["_law_web_here", "_law_manner", "_law_marks", "_law_place", "_law_bottom", "_law_many"] := fun _ _ _ _ _ _ us hl => match us, hl with | [_, _, _, _, _, _], _ => rfl
theorem c__law_all_dice (fx : Facts K mg) : Callee P w K mg base 12 "_law_all_dice" (top 51) ["_law_web_here", "_law_manner", "_law_marks", "_law_place", "_law_bottom", "_law_many"] O__law_all_dice := by
  obtain ⟨fd, F⟩ := fx.F__law_all_dice
  refine ⟨fx.g__law_all_dice, fd, F, ?_⟩
  rw [is__law_all_dice.eq]
  refine fn_den F sc__law_all_dice fun cdv A outer s H E hr tk => ?_
  have nd := sc__law_all_dice.nd
  exact (dss_cons (ds_set 6 nd (de_len fx.n_len (da_cons (de_ix (de_var 0) de_int) da_nil)))
      (dss_cons (ds_setLc 7 [("_law_k", 8)] (.one 8) rfl nd (by decide) (by exact blkB_ok (by kernel_rfl)) (di_range1 fx.n_range (de_var 4)) (fun _ _ _ _ _ => (pg_name nd rfl (by first | exact .inl rfl | exact .inr rfl) (by first | exact .inl rfl | exact .inr rfl))) (fun _ _ _ _ _ => dts_nil) (fun _ _ _ _ _ => (de_callC (c__law_lowest fx) b__law_lowest hr (by omega) takes0 (da_cons (de_var 8) (da_cons (de_var 4) da_nil)))) (by rfl))
      (dss_cons (ds_setLcM 9 [("_law_t", 10)] (.one 10) rfl nd (by decide) (by exact blkB_ok (by kernel_rfl)) (di_range1 fx.n_range (de_var 5)) (fun _ _ _ _ _ => (pg_name nd rfl (by first | exact .inl rfl | exact .inr rfl) (by first | exact .inl rfl | exact .inr rfl))) (fun _ _ _ _ _ => dts_nil) (fun _ _ _ _ _ => (de_lcM [("_law_i", 11)] (.one 11) rfl nd (by decide) (by exact blkB_ok (by kernel_rfl)) (di_range1 fx.n_range (de_var 6)) (fun _ _ _ _ _ => (pg_name nd rfl (by first | exact .inl rfl | exact .inr rfl) (by first | exact .inl rfl | exact .inr rfl))) (fun _ _ _ _ _ => dts_nil) (fun _ _ _ _ _ => de_int))) (by rfl))
      (dss_cons (ds_setLcM 12 [("_law_t", 10)] (.one 10) rfl nd (by decide) (by exact blkB_ok (by kernel_rfl)) (di_range1 fx.n_range (de_var 5)) (fun _ _ _ _ _ => (pg_name nd rfl (by first | exact .inl rfl | exact .inr rfl) (by first | exact .inl rfl | exact .inr rfl))) (fun _ _ _ _ _ => dts_nil) (fun _ _ _ _ _ => (de_lcM [("_law_i", 11)] (.one 11) rfl nd (by decide) (by exact blkB_ok (by kernel_rfl)) (di_range1 fx.n_range (de_var 6)) (fun _ _ _ _ _ => (pg_name nd rfl (by first | exact .inl rfl | exact .inr rfl) (by first | exact .inl rfl | exact .inr rfl))) (fun _ _ _ _ _ => dts_nil) (fun _ _ _ _ _ => de_int))) (by rfl))
      (dss_cons (ds_setLcM 13 [("_law_i", 11)] (.one 11) rfl nd (by decide) (by exact blkB_ok (by kernel_rfl)) (di_range1 fx.n_range (de_var 6)) (fun _ _ _ _ _ => (pg_name nd rfl (by first | exact .inl rfl | exact .inr rfl) (by first | exact .inl rfl | exact .inr rfl))) (fun _ _ _ _ _ => dts_nil) (fun _ _ _ _ _ => de_int) (by rfl))
      (dss_cons (ds_for (L2.passes_of rfl) rfl (di_range1 fx.n_range (de_ix (de_lst (da_cons de_int (da_cons (de_pow (de_var 4) de_int) (da_cons (de_pow (de_var 4) de_int) (da_cons (de_pow (de_var 4) de_int) (da_cons (de_pow (de_var 4) de_int) da_nil)))))) (de_var 5))) (dg_name 14 nd) (dss_cons (ds_set 15 nd (de_lstM da_nil))
      (dss_cons (ds_for (L2.passes_of rfl) rfl (di_range1 fx.n_range (de_var 5)) (dg_name 10 nd) (dss_cons (ds_expr (de_app (de_var 15) (de_tup (da_cons (de_ix (de_var 7) (de_mod (de_callTy call_int1 callD_int1 (by decide +kernel) fx.n_int (da_cons (de_var 14) da_nil)) (de_var 4))) (da_cons (de_ix (de_var 7) (de_mod (de_callTy call_int1 callD_int1 (by decide +kernel) fx.n_int (da_cons (de_div (de_var 14) (de_var 4)) da_nil)) (de_var 4))) da_nil)))))
      (dss_cons (ds_set 14 nd (de_div (de_var 14) (de_mul (de_var 4) (de_var 4))))
      dss_nil)))
      (dss_cons (ds_set 16 nd (de_callC (c_led fx) b_led hr (by omega) tk (da_cons (de_var 0) (da_cons (de_var 1) (da_cons (de_var 2) (da_cons (de_var 3) (da_cons (de_callTy call_tuple_of callD_tuple1 (by decide +kernel) fx.n_tuple (da_cons (de_var 15) da_nil)) da_nil)))))))
      (dss_cons (ds_if (dt_not (dt_truth (de_callC (c__law_is_led fx) b__law_is_led hr (by omega) tk (da_cons (de_var 16) (da_cons (de_var 6) (da_cons (de_var 5) (da_cons (de_var 3) da_nil))))))) (dss_cons (ds_ret de_bl)
      dss_nil) dss_nil)
      (dss_cons (ds_set 17 nd (de_ix (de_var 16) de_int))
      (dss_cons (ds_for (L2.passes_of rfl) rfl (di_range1 fx.n_range (de_sub (de_len fx.n_len (da_cons (de_var 17) da_nil)) de_int)) (dg_name 10 nd) (dss_cons (ds_store (de_add (de_ix (de_ix (de_var 9) (de_var 10)) (de_ix (de_var 17) (de_var 10))) de_int) (de_ix (de_var 9) (de_var 10)) (de_ix (de_var 17) (de_var 10)))
      dss_nil))
      (dss_cons (ds_set 18 nd (de_sub (de_len fx.n_len (da_cons (de_var 17) da_nil)) de_int))
      (dss_cons (ds_if (dt_truth (de_ix (de_var 16) de_int)) (dss_cons (ds_store (de_add (de_ix (de_ix (de_var 12) (de_var 18)) (de_ix (de_var 17) (de_var 18))) de_int) (de_ix (de_var 12) (de_var 18)) (de_ix (de_var 17) (de_var 18)))
      dss_nil) (dss_cons (ds_store (de_add (de_ix (de_var 13) (de_ix (de_var 17) (de_var 18))) de_int) (de_var 13) (de_ix (de_var 17) (de_var 18)))
      dss_nil))
      dss_nil)))))))))
      (dss_cons (ds_ret (de_eq hr.units (de_tup (da_cons (de_var 9) (da_cons (de_var 12) (da_cons (de_var 13) da_nil)))) (de_callC (c__law_dues fx) b__law_dues hr (by omega) tk (da_cons (de_var 0) (da_cons (de_var 1) (da_cons (de_var 2) (da_cons (de_var 3) (da_cons (de_var 4) (da_cons (de_var 5) da_nil)))))))))
      dss_nil)))))))
noncomputable def D__law_brinks : SDen := sSeq (sSet 5 (dLstM (dNil))) (sSeq (sFor (dRange1 (dVar 2)) (tName 6) (sSeq (sSet 7 (dBin oIx (dVar 0) (dBin oPlus (dVar 1) (dVar 6)))) (sSeq (sIf (dBin oEq (dBin oMod (dVar 7) (dC (.int 5))) (dC (.int 3))) (sSeq (sExpr (dApp (dVar 5) (dC .non))) (sNil)) (sSeq (sExpr (dApp (dVar 5) (dTup (dCons (dBin oMod (dBin oDiv (dVar 7) (dC (.int 5))) (dBin oPlus (dVar 4) (dC (.int 1)))) (dCons (dFn 2 O__law_lowest (dCons (dBin oMod (dCall oInt1 (dCons (dBin oDiv (dVar 7) (dC (.int 25))) (dNil))) (dVar 3)) (dCons (dVar 3) (dNil)))) (dNil)))))) (sNil))) (sNil)))) (sSeq (sRet (dCall oTuple1 (dCons (dVar 5) (dNil)))) (sNil)))
theorem Q__law_brinks : ∃ F : Op, F = fnOf ["_law_numbers_here", "_law_at", "_law_size", "_law_bottom", "_law_many", "_law_brinks_here", "_law_i", "_law_code"] D__law_brinks := ⟨_, rfl⟩
noncomputable def O__law_brinks : Op := Classical.choose Q__law_brinks
instance is__law_brinks : Is O__law_brinks ["_law_numbers_here", "_law_at", "_law_size", "_law_bottom", "_law_many", "_law_brinks_here", "_law_i", "_law_code"] D__law_brinks := ⟨Classical.choose_spec Q__law_brinks⟩
theorem sc__law_brinks : FnScope ["_law_numbers_here", "_law_at", "_law_size", "_law_bottom", "_law_many", "_law_brinks_here", "_law_i", "_law_code"] ["_law_numbers_here", "_law_at", "_law_size", "_law_bottom", "_law_many"] (defScope (top 46)) := ⟨rfl, rfl, rfl, by decide +kernel, rfl, by decide +kernel, by decide +kernel⟩
theorem b__law_brinks : BindsAll "_law_brinks" (top 46) ["_law_numbers_here", "_law_at", "_law_size", "_law_bottom", "_law_many"] := fun _ _ _ _ _ _ us hl => match us, hl with | [_, _, _, _, _], _ => rfl
theorem c__law_brinks (fx : Facts K mg) : Callee P w K mg base 3 "_law_brinks" (top 46) ["_law_numbers_here", "_law_at", "_law_size", "_law_bottom", "_law_many"] O__law_brinks := by
  obtain ⟨fd, F⟩ := fx.F__law_brinks
  refine ⟨fx.g__law_brinks, fd, F, ?_⟩
  rw [is__law_brinks.eq]
  refine fn_den F sc__law_brinks fun cdv A outer s H E hr tk => ?_
  have nd := sc__law_brinks.nd
  exact (dss_cons (ds_set 5 nd (de_lstM da_nil))
      (dss_cons (ds_for (L2.passes_of rfl) rfl (di_range1 fx.n_range (de_var 2)) (dg_name 6 nd) (dss_cons (ds_set 7 nd (de_ix (de_var 0) (de_add (de_var 1) (de_var 6))))
      (dss_cons (ds_if (dt_eq hr.units (de_mod (de_var 7) de_int) de_int) (dss_cons (ds_expr (de_app (de_var 5) de_non))
      dss_nil) (dss_cons (ds_expr (de_app (de_var 5) (de_tup (da_cons (de_mod (de_div (de_var 7) de_int) (de_add (de_var 4) de_int)) (da_cons (de_callC (c__law_lowest fx) b__law_lowest hr (by omega) tk (da_cons (de_mod (de_callTy call_int1 callD_int1 (by decide +kernel) fx.n_int (da_cons (de_div (de_var 7) de_int) da_nil)) (de_var 3)) (da_cons (de_var 3) da_nil))) da_nil)))))
      dss_nil))
      dss_nil)))
      (dss_cons (ds_ret (de_callTy call_tuple_of callD_tuple1 (by decide +kernel) fx.n_tuple (da_cons (de_var 5) da_nil)))
      dss_nil)))
noncomputable def D__law_coins : SDen := sSeq (sRet (dCall oTuple1 (dCons (dLc [4] (dRange1 (dVar 2)) (.one 4) (dYes) (dFn 2 O__law_lowest (dCons (dBin oMod (dCall oInt1 (dCons (dBin oIx (dVar 0) (dBin oPlus (dVar 1) (dVar 4))) (dNil))) (dBin oPlus (dVar 3) (dC (.int 1)))) (dCons (dVar 3) (dNil))))) (dNil)))) (sNil)
theorem Q__law_coins : ∃ F : Op, F = fnOf ["_law_numbers_here", "_law_at", "_law_size", "_law_bottom", "_law_i"] D__law_coins := ⟨_, rfl⟩
noncomputable def O__law_coins : Op := Classical.choose Q__law_coins
instance is__law_coins : Is O__law_coins ["_law_numbers_here", "_law_at", "_law_size", "_law_bottom", "_law_i"] D__law_coins := ⟨Classical.choose_spec Q__law_coins⟩
theorem sc__law_coins : FnScope ["_law_numbers_here", "_law_at", "_law_size", "_law_bottom", "_law_i"] ["_law_numbers_here", "_law_at", "_law_size", "_law_bottom"] (defScope (top 47)) := ⟨rfl, rfl, rfl, by decide +kernel, rfl, by decide +kernel, by decide +kernel⟩
theorem b__law_coins : BindsAll "_law_coins" (top 47) ["_law_numbers_here", "_law_at", "_law_size", "_law_bottom"] := fun _ _ _ _ _ _ us hl => match us, hl with | [_, _, _, _], _ => rfl
theorem c__law_coins (fx : Facts K mg) : Callee P w K mg base 3 "_law_coins" (top 47) ["_law_numbers_here", "_law_at", "_law_size", "_law_bottom"] O__law_coins := by
  obtain ⟨fd, F⟩ := fx.F__law_coins
  refine ⟨fx.g__law_coins, fd, F, ?_⟩
  rw [is__law_coins.eq]
  refine fn_den F sc__law_coins fun cdv A outer s H E hr tk => ?_
  have nd := sc__law_coins.nd
  exact (dss_cons (ds_ret (de_callTy call_tuple_of callD_tuple1 (by decide +kernel) fx.n_tuple (da_cons (de_lc [("_law_i", 4)] (.one 4) rfl nd (by decide) (by exact blkB_ok (by kernel_rfl)) (di_range1 fx.n_range (de_var 2)) (fun _ _ _ _ _ => (pg_name nd rfl (by first | exact .inl rfl | exact .inr rfl) (by first | exact .inl rfl | exact .inr rfl))) (fun _ _ _ _ _ => dts_nil) (fun _ _ _ _ _ => (de_callC (c__law_lowest fx) b__law_lowest hr (by omega) takes0 (da_cons (de_mod (de_callTy call_int1 callD_int1 (by decide +kernel) fx.n_int (da_cons (de_ix (de_var 0) (de_add (de_var 1) (de_var 4))) da_nil)) (de_add (de_var 3) de_int)) (da_cons (de_var 3) da_nil))))) da_nil)))
      dss_nil)
noncomputable def D_arrow_by : SDen := sSeq (sExpr (dFn 3 O_require_place (dCons (dVar 0) (dCons (dVar 1) (dCons (dC (.str "place")) (dNil)))))) (sSeq (sExpr (dFn 1 O_require_die (dCons (dVar 2) (dNil)))) (sSeq (sRet (dFn 3 O_next_by (dCons (dVar 0) (dCons (dVar 1) (dCons (dVar 2) (dNil)))))) (sNil)))
theorem Q_arrow_by : ∃ F : Op, F = fnOf ["web", "place", "die"] D_arrow_by := ⟨_, rfl⟩
noncomputable def O_arrow_by : Op := Classical.choose Q_arrow_by
instance is_arrow_by : Is O_arrow_by ["web", "place", "die"] D_arrow_by := ⟨Classical.choose_spec Q_arrow_by⟩
theorem sc_arrow_by : FnScope ["web", "place", "die"] ["web", "place", "die"] (defScope (top 37)) := ⟨rfl, rfl, rfl, by decide +kernel, rfl, by decide +kernel, by decide +kernel⟩
theorem b_arrow_by : BindsAll "arrow_by" (top 37) ["web", "place", "die"] := fun _ _ _ _ _ _ us hl => match us, hl with | [_, _, _], _ => rfl
theorem bk_arrow_by_die_place_web : BindsKw "arrow_by" (top 37) ["web", "place", "die"] ["die", "place", "web"] [2, 1, 0] := fun _ _ _ _ _ _ us hl => match us, hl with | [_, _, _], _ => rfl
theorem c_arrow_by (fx : Facts K mg) : Callee P w K mg base 8 "arrow_by" (top 37) ["web", "place", "die"] O_arrow_by := by
  obtain ⟨fd, F⟩ := fx.F_arrow_by
  refine ⟨fx.g_arrow_by, fd, F, ?_⟩
  rw [is_arrow_by.eq]
  refine fn_den F sc_arrow_by fun cdv A outer s H E hr tk => ?_
  have nd := sc_arrow_by.nd
  exact (dss_cons (ds_expr (de_callC (c_require_place fx) b_require_place hr (by omega) tk (da_cons (de_var 0) (da_cons (de_var 1) (da_cons de_str da_nil)))))
      (dss_cons (ds_expr (de_callC (c_require_die fx) b_require_die hr (by omega) tk (da_cons (de_var 2) da_nil)))
      (dss_cons (ds_ret (de_callC (c_next_by fx) b_next_by hr (by omega) tk (da_cons (de_var 0) (da_cons (de_var 1) (da_cons (de_var 2) da_nil)))))
      dss_nil)))
noncomputable def D__law_refused_suite (a0 d0 : Nat) : SDen := sSeq (sRet (dTup (dCons (dAttrC a0 d0 ["NotUsable"] "word" (dVar 2)) (dCons (dAttrC a0 d0 ["NotUsable"] "at" (dVar 2)) (dNil))))) (sNil)
noncomputable def D__law_refused : SDen := sSeq (sTry [("NotUsable", true)] 2 (sSeq (sIf (dBin oEq (dCall oLen (dCons (dVar 1) (dNil))) (dC (.int 3))) (sSeq (sExpr (dFnL 0 3 [("arrow_by", O_arrow_by), ("coin_word", O_coin_word)] (dCons (dBin oIx (dVar 1) (dC (.int 0))) (dCons (dBin oIx (dVar 1) (dC (.int 1))) (dCons (dBin oIx (dVar 1) (dC (.int 2))) (dNil)))))) (sNil)) (sSeq (sIf (dBin oEq (dCall oLen (dCons (dVar 1) (dNil))) (dC (.int 4))) (sSeq (sExpr (dFnL 0 4 [("go_word", O_go_word), ("stay_word", O_stay_word)] (dCons (dBin oIx (dVar 1) (dC (.int 0))) (dCons (dBin oIx (dVar 1) (dC (.int 1))) (dCons (dBin oIx (dVar 1) (dC (.int 2))) (dCons (dBin oIx (dVar 1) (dC (.int 3))) (dNil))))))) (sNil)) (sSeq (sExpr (dFnL 0 5 [("led", O_led)] (dCons (dBin oIx (dVar 1) (dC (.int 0))) (dCons (dBin oIx (dVar 1) (dC (.int 1))) (dCons (dBin oIx (dVar 1) (dC (.int 2))) (dCons (dBin oIx (dVar 1) (dC (.int 3))) (dCons (dBin oIx (dVar 1) (dC (.int 4))) (dNil)))))))) (sNil))) (sNil))) (sNil)) (fun _ => D__law_refused_suite)) (sSeq (sRet (dC .non)) (sNil))
theorem Q__law_refused : ∃ F : Op, F = fnOf ["_law_ask", "_law_things", "e"] D__law_refused := ⟨_, rfl⟩
noncomputable def O__law_refused : Op := Classical.choose Q__law_refused
instance is__law_refused : Is O__law_refused ["_law_ask", "_law_things", "e"] D__law_refused := ⟨Classical.choose_spec Q__law_refused⟩
theorem sc__law_refused : FnScope ["_law_ask", "_law_things", "e"] ["_law_ask", "_law_things"] (defScope (top 54)) := ⟨rfl, rfl, rfl, by decide +kernel, rfl, by decide +kernel, by decide +kernel⟩
theorem b__law_refused : BindsAll "_law_refused" (top 54) ["_law_ask", "_law_things"] := fun _ _ _ _ _ _ us hl => match us, hl with | [_, _], _ => rfl
theorem c__law_refused (fx : Facts K mg) : Callee P w K mg base 12 "_law_refused" (top 54) ["_law_ask", "_law_things"] O__law_refused := by
  obtain ⟨fd, F⟩ := fx.F__law_refused
  refine ⟨fx.g__law_refused, fd, F, ?_⟩
  rw [is__law_refused.eq]
  refine fn_den F sc__law_refused fun cdv A outer s H E hr tk => ?_
  have nd := sc__law_refused.nd
  exact (dss_cons (ds_try 2 (exTab1 fx.x_NotUsable fx.ex_NotUsable_NotUsable) rfl rfl nd tk ⟨rfl, by decide, .inl fx.g_NotUsable⟩ (fun W pn xe tkx hpx => (dss_cons (ds_if (dt_eq hr.units (de_len fx.n_len (da_cons (de_var 1) da_nil)) de_int) (dss_cons (ds_expr (de_callL (k := 11) (TabOk.cons (c_arrow_by fx) (by omega) b_arrow_by rfl (TabOk.cons (c_coin_word fx) (by omega) b_coin_word rfl TabOk.nil)) hr (by omega) tkx (da_cons (de_ix (de_var 1) de_int) (da_cons (de_ix (de_var 1) de_int) (da_cons (de_ix (de_var 1) de_int) da_nil)))))
      dss_nil) (dss_cons (ds_if (dt_eq hr.units (de_len fx.n_len (da_cons (de_var 1) da_nil)) de_int) (dss_cons (ds_expr (de_callL (k := 11) (TabOk.cons (c_go_word fx) (by omega) b_go_word rfl (TabOk.cons (c_stay_word fx) (by omega) b_stay_word rfl TabOk.nil)) hr (by omega) tkx (da_cons (de_ix (de_var 1) de_int) (da_cons (de_ix (de_var 1) de_int) (da_cons (de_ix (de_var 1) de_int) (da_cons (de_ix (de_var 1) de_int) da_nil))))))
      dss_nil) (dss_cons (ds_expr (de_callL (k := 11) (TabOk.cons (c_led fx) (by omega) b_led rfl TabOk.nil) hr (by omega) tkx (da_cons (de_ix (de_var 1) de_int) (da_cons (de_ix (de_var 1) de_int) (da_cons (de_ix (de_var 1) de_int) (da_cons (de_ix (de_var 1) de_int) (da_cons (de_ix (de_var 1) de_int) da_nil)))))))
      dss_nil))
      dss_nil))
      dss_nil)) (fun a0 oe c C0 d0 pn hm0 htb hz hf => by
      obtain rfl := tab1 htb
      have hot := hot_suite (X := cxOf (L2N.CX P w) P w K mg base ["_law_ask", "_law_things", "e"] "_law_refused" (defScope (top 54)) (He.ga K "_law_refused") cdv A outer s H E) (a0 := a0) (pn := pn) hz hf
      exact (dss_cons (ds_ret (de_tup (da_cons (de_attrC (errAt fx.x_NotUsable fx.no_NotUsable_word) hm0 hz.zc hf (de_var 2)) (da_cons (de_attrC (errAt fx.x_NotUsable fx.no_NotUsable_at) hm0 hz.zc hf (de_var 2)) da_nil))))
      dss_nil)))
      (dss_cons (ds_ret de_non)
      dss_nil))
noncomputable def D__law_marks_refused : SDen := sSeq (sSet 4 (dTup (dCons (dC (.int 1)) (dCons (dC (.int 2)) (dNil))))) (sSeq (sFor (dItems (dLst (dCons (dC .non) (dCons (dUn oNeg (dC (.int 1))) (dCons (dC (.bl true)) (dCons (dTup (dCons (dC (.int 0)) (dNil))) (dNil))))))) (tName 5) (sSeq (sIf (dBin oNe (dFn 2 O__law_refused (dCons (dC (.fn "go_word")) (dCons (dLst (dCons (dVar 1) (dCons (dVar 3) (dCons (dVar 5) (dCons (dC .non) (dNil)))))) (dNil)))) (dTup (dCons (dC (.str "many")) (dCons (dUn oNeg (dC (.int 1))) (dNil))))) (sSeq (sRet (dC (.bl false))) (sNil)) (sNil)) (sSeq (sIf (dBin oNe (dFn 2 O__law_refused (dCons (dC (.fn "stay_word")) (dCons (dLst (dCons (dVar 1) (dCons (dVar 3) (dCons (dVar 5) (dCons (dC .non) (dNil)))))) (dNil)))) (dTup (dCons (dC (.str "many")) (dCons (dUn oNeg (dC (.int 1))) (dNil))))) (sSeq (sRet (dC (.bl false))) (sNil)) (sNil)) (sNil)))) (sSeq (sFor (dItems (dLst (dCons (dC .non) (dCons (dTup (dNil)) (dCons (dCall oList1 (dCons (dVar 1) (dNil))) (dCons (dTup (dCons (dTup (dCons (dC (.int 0)) (dCons (dTup (dCons (dC (.int 1)) (dCons (dC (.int 1)) (dNil)))) (dNil)))) (dNil))) (dCons (dTup (dCons (dTup (dCons (dUn oNeg (dC (.int 1))) (dCons (dVar 4) (dNil)))) (dNil))) (dCons (dTup (dCons (dTup (dCons (dC (.int 0)) (dCons (dVar 4) (dCons (dVar 4) (dNil))))) (dNil))) (dCons (dTup (dCons (dVar 4) (dNil))) (dCons (dTup (dCons (dTup (dCons (dC (.bl true)) (dCons (dVar 4) (dNil)))) (dNil))) (dNil))))))))))) (tName 5) (sSeq (sIf (dBin oNe (dFn 2 O__law_refused (dCons (dC (.fn "go_word")) (dCons (dLst (dCons (dVar 5) (dCons (dC .non) (dCons (dUn oNeg (dC (.int 1))) (dCons (dC .non) (dNil)))))) (dNil)))) (dTup (dCons (dC (.str "brinks")) (dCons (dUn oNeg (dC (.int 1))) (dNil))))) (sSeq (sRet (dC (.bl false))) (sNil)) (sNil)) (sSeq (sIf (dBin oNe (dFn 2 O__law_refused (dCons (dC (.fn "stay_word")) (dCons (dLst (dCons (dVar 5) (dCons (dC .non) (dCons (dUn oNeg (dC (.int 1))) (dCons (dC .non) (dNil)))))) (dNil)))) (dTup (dCons (dC (.str "brinks")) (dCons (dUn oNeg (dC (.int 1))) (dNil))))) (sSeq (sRet (dC (.bl false))) (sNil)) (sNil)) (sSeq (sSet 6 (dIf (dTru (dIsi "tuple" (dVar 5))) (dBin oPlus (dVar 5) (dCut (dVar 1) (some (dC (.int 1))) none)) (dVar 5))) (sSeq (sIf (dBin oNe (dFn 2 O__law_refused (dCons (dC (.fn "led")) (dCons (dLst (dCons (dVar 0) (dCons (dC (.str "stay")) (dCons (dVar 6) (dCons (dC .non) (dCons (dC .non) (dNil))))))) (dNil)))) (dTup (dCons (dC (.str "marks")) (dCons (dUn oNeg (dC (.int 1))) (dNil))))) (sSeq (sRet (dC (.bl false))) (sNil)) (sNil)) (sNil)))))) (sSeq (sFor (dItems (dLst (dCons (dC .non) (dCons (dTup (dNil)) (dCons (dCall oList1 (dCons (dVar 2) (dNil))) (dCons (dTup (dCons (dTup (dCons (dC (.int 3)) (dCons (dC (.int 2)) (dNil)))) (dNil))) (dCons (dTup (dCons (dTup (dCons (dUn oNeg (dC (.int 1))) (dCons (dC (.int 2)) (dNil)))) (dNil))) (dCons (dTup (dCons (dTup (dCons (dC (.int 2)) (dCons (dC (.int 4)) (dNil)))) (dNil))) (dCons (dTup (dCons (dC .non) (dNil))) (dCons (dTup (dCons (dTup (dCons (dC (.int 0)) (dCons (dVar 4) (dNil)))) (dNil))) (dCons (dTup (dCons (dC (.int 1)) (dNil))) (dNil)))))))))))) (tName 5) (sSeq (sIf (dBin oNe (dFn 2 O__law_refused (dCons (dC (.fn "coin_word")) (dCons (dLst (dCons (dVar 5) (dCons (dC .non) (dCons (dC .non) (dNil))))) (dNil)))) (dTup (dCons (dC (.str "coins")) (dCons (dUn oNeg (dC (.int 1))) (dNil))))) (sSeq (sRet (dC (.bl false))) (sNil)) (sNil)) (sSeq (sSet 6 (dIf (dTru (dIsi "tuple" (dVar 5))) (dBin oPlus (dVar 5) (dCut (dVar 2) (some (dC (.int 1))) none)) (dVar 5))) (sSeq (sIf (dBin oNe (dFn 2 O__law_refused (dCons (dC (.fn "led")) (dCons (dLst (dCons (dVar 0) (dCons (dC (.str "coin")) (dCons (dVar 6) (dCons (dC .non) (dCons (dC .non) (dNil))))))) (dNil)))) (dTup (dCons (dC (.str "marks")) (dCons (dUn oNeg (dC (.int 1))) (dNil))))) (sSeq (sRet (dC (.bl false))) (sNil)) (sNil)) (sNil))))) (sSeq (sFor (dItems (dLst (dCons (dC .non) (dCons (dC (.str "Go")) (dCons (dC (.str "")) (dCons (dC (.int 0)) (dCons (dTup (dCons (dC (.str "go")) (dNil))) (dCons (dC (.str "gone")) (dNil))))))))) (tName 5) (sSeq (sIf (dBin oNe (dFn 2 O__law_refused (dCons (dC (.fn "led")) (dCons (dLst (dCons (dVar 0) (dCons (dVar 5) (dCons (dC .non) (dCons (dC .non) (dCons (dC .non) (dNil))))))) (dNil)))) (dTup (dCons (dC (.str "manner")) (dCons (dUn oNeg (dC (.int 1))) (dNil))))) (sSeq (sRet (dC (.bl false))) (sNil)) (sNil)) (sNil))) (sSeq (sFor (dItems (dLst (dCons (dC .non) (dCons (dLst (dCons (dTup (dCons (dVar 4) (dCons (dVar 4) (dNil)))) (dNil))) (dCons (dTup (dCons (dVar 4) (dCons (dVar 4) (dNil)))) (dCons (dTup (dCons (dTup (dCons (dVar 4) (dNil))) (dNil))) (dCons (dTup (dCons (dTup (dCons (dVar 4) (dCons (dVar 4) (dCons (dVar 4) (dNil))))) (dNil))) (dCons (dTup (dCons (dLst (dCons (dVar 4) (dCons (dVar 4) (dNil)))) (dNil))) (dCons (dVar 4) (dCons (dTup (dCons (dC .non) (dNil))) (dNil))))))))))) (tName 5) (sSeq (sIf (dBin oNe (dFn 2 O__law_refused (dCons (dC (.fn "led")) (dCons (dLst (dCons (dVar 0) (dCons (dC (.str "go")) (dCons (dVar 1) (dCons (dVar 3) (dCons (dVar 5) (dNil))))))) (dNil)))) (dTup (dCons (dC (.str "dice")) (dCons (dUn oNeg (dC (.int 1))) (dNil))))) (sSeq (sRet (dC (.bl false))) (sNil)) (sNil)) (sNil))) (sSeq (sRet (dBin oEq (dFn 2 O__law_refused (dCons (dC (.fn "led")) (dCons (dLst (dCons (dVar 0) (dCons (dC (.str "go")) (dCons (dCut (dVar 1) (some (dC (.int 1))) none) (dCons (dC .non) (dCons (dC .non) (dNil))))))) (dNil)))) (dTup (dCons (dC (.str "marks")) (dCons (dUn oNeg (dC (.int 1))) (dNil)))))) (sNil)))))))
theorem Q__law_marks_refused : ∃ F : Op, F = fnOf ["_law_web_here", "_law_brinks_here", "_law_coins_here", "_law_place", "_law_half", "_law_one", "_law_marks"] D__law_marks_refused := ⟨_, rfl⟩
noncomputable def O__law_marks_refused : Op := Classical.choose Q__law_marks_refused
instance is__law_marks_refused : Is O__law_marks_refused ["_law_web_here", "_law_brinks_here", "_law_coins_here", "_law_place", "_law_half", "_law_one", "_law_marks"] D__law_marks_refused := ⟨Classical.choose_spec Q__law_marks_refused⟩
theorem sc__law_marks_refused : FnScope ["_law_web_here", "_law_brinks_here", "_law_coins_here", "_law_place", "_law_half", "_law_one", "_law_marks"] ["_law_web_here", "_law_brinks_here", "_law_coins_here", "_law_place"] (defScope (top 56)) := ⟨rfl, rfl, rfl, by decide +kernel, rfl, by decide +kernel, by decide +kernel⟩
theorem b__law_marks_refused : BindsAll "_law_marks_refused" (top 56) ["_law_web_here", "_law_brinks_here", "_law_coins_here", "_law_place"] := fun _ _ _ _ _ _ us hl => match us, hl with | [_, _, _, _], _ => rfl
theorem c__law_marks_refused (fx : Facts K mg) : Callee P w K mg base 13 "_law_marks_refused" (top 56) ["_law_web_here", "_law_brinks_here", "_law_coins_here", "_law_place"] O__law_marks_refused := by
  obtain ⟨fd, F⟩ := fx.F__law_marks_refused
  refine ⟨fx.g__law_marks_refused, fd, F, ?_⟩
  rw [is__law_marks_refused.eq]
  refine fn_den F sc__law_marks_refused fun cdv A outer s H E hr tk => ?_
  have nd := sc__law_marks_refused.nd
  exact (dss_cons (ds_set 4 nd (de_tup (da_cons de_int (da_cons de_int da_nil))))
      (dss_cons (ds_for (L2.passes_of rfl) rfl (di_seq (de_lst (da_cons de_non (da_cons (de_neg de_int) (da_cons de_bl (da_cons (de_tup (da_cons de_int da_nil)) da_nil)))))) (dg_name 5 nd) (dss_cons (ds_if (dt_ne hr.units (de_callC (c__law_refused fx) b__law_refused hr (by omega) tk (da_cons (de_fnG fx.g_go_word) (da_cons (de_lst (da_cons (de_var 1) (da_cons (de_var 3) (da_cons (de_var 5) (da_cons de_non da_nil))))) da_nil))) (de_tup (da_cons de_str (da_cons (de_neg de_int) da_nil)))) (dss_cons (ds_ret de_bl)
      dss_nil) dss_nil)
      (dss_cons (ds_if (dt_ne hr.units (de_callC (c__law_refused fx) b__law_refused hr (by omega) tk (da_cons (de_fnG fx.g_stay_word) (da_cons (de_lst (da_cons (de_var 1) (da_cons (de_var 3) (da_cons (de_var 5) (da_cons de_non da_nil))))) da_nil))) (de_tup (da_cons de_str (da_cons (de_neg de_int) da_nil)))) (dss_cons (ds_ret de_bl)
      dss_nil) dss_nil)
      dss_nil)))
      (dss_cons (ds_for (L2.passes_of rfl) rfl (di_seq (de_lst (da_cons de_non (da_cons (de_tup da_nil) (da_cons (de_callTy call_list_of callD_list1 (by decide +kernel) fx.n_list (da_cons (de_var 1) da_nil)) (da_cons (de_tup (da_cons (de_tup (da_cons de_int (da_cons (de_tup (da_cons de_int (da_cons de_int da_nil))) da_nil))) da_nil)) (da_cons (de_tup (da_cons (de_tup (da_cons (de_neg de_int) (da_cons (de_var 4) da_nil))) da_nil)) (da_cons (de_tup (da_cons (de_tup (da_cons de_int (da_cons (de_var 4) (da_cons (de_var 4) da_nil)))) da_nil)) (da_cons (de_tup (da_cons (de_var 4) da_nil)) (da_cons (de_tup (da_cons (de_tup (da_cons de_bl (da_cons (de_var 4) da_nil))) da_nil)) da_nil)))))))))) (dg_name 5 nd) (dss_cons (ds_if (dt_ne hr.units (de_callC (c__law_refused fx) b__law_refused hr (by omega) tk (da_cons (de_fnG fx.g_go_word) (da_cons (de_lst (da_cons (de_var 5) (da_cons de_non (da_cons (de_neg de_int) (da_cons de_non da_nil))))) da_nil))) (de_tup (da_cons de_str (da_cons (de_neg de_int) da_nil)))) (dss_cons (ds_ret de_bl)
      dss_nil) dss_nil)
      (dss_cons (ds_if (dt_ne hr.units (de_callC (c__law_refused fx) b__law_refused hr (by omega) tk (da_cons (de_fnG fx.g_stay_word) (da_cons (de_lst (da_cons (de_var 5) (da_cons de_non (da_cons (de_neg de_int) (da_cons de_non da_nil))))) da_nil))) (de_tup (da_cons de_str (da_cons (de_neg de_int) da_nil)))) (dss_cons (ds_ret de_bl)
      dss_nil) dss_nil)
      (dss_cons (ds_set 6 nd (de_if (dt_truth (de_isi (de_var 5) fx.n_isinstance fx.n_tuple (by decide +kernel) (by decide))) (de_add (de_var 5) (de_cut (de_var 1) de_int trivial)) (de_var 5)))
      (dss_cons (ds_if (dt_ne hr.units (de_callC (c__law_refused fx) b__law_refused hr (by omega) tk (da_cons (de_fnG fx.g_led) (da_cons (de_lst (da_cons (de_var 0) (da_cons de_str (da_cons (de_var 6) (da_cons de_non (da_cons de_non da_nil)))))) da_nil))) (de_tup (da_cons de_str (da_cons (de_neg de_int) da_nil)))) (dss_cons (ds_ret de_bl)
      dss_nil) dss_nil)
      dss_nil)))))
      (dss_cons (ds_for (L2.passes_of rfl) rfl (di_seq (de_lst (da_cons de_non (da_cons (de_tup da_nil) (da_cons (de_callTy call_list_of callD_list1 (by decide +kernel) fx.n_list (da_cons (de_var 2) da_nil)) (da_cons (de_tup (da_cons (de_tup (da_cons de_int (da_cons de_int da_nil))) da_nil)) (da_cons (de_tup (da_cons (de_tup (da_cons (de_neg de_int) (da_cons de_int da_nil))) da_nil)) (da_cons (de_tup (da_cons (de_tup (da_cons de_int (da_cons de_int da_nil))) da_nil)) (da_cons (de_tup (da_cons de_non da_nil)) (da_cons (de_tup (da_cons (de_tup (da_cons de_int (da_cons (de_var 4) da_nil))) da_nil)) (da_cons (de_tup (da_cons de_int da_nil)) da_nil))))))))))) (dg_name 5 nd) (dss_cons (ds_if (dt_ne hr.units (de_callC (c__law_refused fx) b__law_refused hr (by omega) tk (da_cons (de_fnG fx.g_coin_word) (da_cons (de_lst (da_cons (de_var 5) (da_cons de_non (da_cons de_non da_nil)))) da_nil))) (de_tup (da_cons de_str (da_cons (de_neg de_int) da_nil)))) (dss_cons (ds_ret de_bl)
      dss_nil) dss_nil)
      (dss_cons (ds_set 6 nd (de_if (dt_truth (de_isi (de_var 5) fx.n_isinstance fx.n_tuple (by decide +kernel) (by decide))) (de_add (de_var 5) (de_cut (de_var 2) de_int trivial)) (de_var 5)))
      (dss_cons (ds_if (dt_ne hr.units (de_callC (c__law_refused fx) b__law_refused hr (by omega) tk (da_cons (de_fnG fx.g_led) (da_cons (de_lst (da_cons (de_var 0) (da_cons de_str (da_cons (de_var 6) (da_cons de_non (da_cons de_non da_nil)))))) da_nil))) (de_tup (da_cons de_str (da_cons (de_neg de_int) da_nil)))) (dss_cons (ds_ret de_bl)
      dss_nil) dss_nil)
      dss_nil))))
      (dss_cons (ds_for (L2.passes_of rfl) rfl (di_seq (de_lst (da_cons de_non (da_cons de_str (da_cons de_str (da_cons de_int (da_cons (de_tup (da_cons de_str da_nil)) (da_cons de_str da_nil)))))))) (dg_name 5 nd) (dss_cons (ds_if (dt_ne hr.units (de_callC (c__law_refused fx) b__law_refused hr (by omega) tk (da_cons (de_fnG fx.g_led) (da_cons (de_lst (da_cons (de_var 0) (da_cons (de_var 5) (da_cons de_non (da_cons de_non (da_cons de_non da_nil)))))) da_nil))) (de_tup (da_cons de_str (da_cons (de_neg de_int) da_nil)))) (dss_cons (ds_ret de_bl)
      dss_nil) dss_nil)
      dss_nil))
      (dss_cons (ds_for (L2.passes_of rfl) rfl (di_seq (de_lst (da_cons de_non (da_cons (de_lst (da_cons (de_tup (da_cons (de_var 4) (da_cons (de_var 4) da_nil))) da_nil)) (da_cons (de_tup (da_cons (de_var 4) (da_cons (de_var 4) da_nil))) (da_cons (de_tup (da_cons (de_tup (da_cons (de_var 4) da_nil)) da_nil)) (da_cons (de_tup (da_cons (de_tup (da_cons (de_var 4) (da_cons (de_var 4) (da_cons (de_var 4) da_nil)))) da_nil)) (da_cons (de_tup (da_cons (de_lst (da_cons (de_var 4) (da_cons (de_var 4) da_nil))) da_nil)) (da_cons (de_var 4) (da_cons (de_tup (da_cons de_non da_nil)) da_nil)))))))))) (dg_name 5 nd) (dss_cons (ds_if (dt_ne hr.units (de_callC (c__law_refused fx) b__law_refused hr (by omega) tk (da_cons (de_fnG fx.g_led) (da_cons (de_lst (da_cons (de_var 0) (da_cons de_str (da_cons (de_var 1) (da_cons (de_var 3) (da_cons (de_var 5) da_nil)))))) da_nil))) (de_tup (da_cons de_str (da_cons (de_neg de_int) da_nil)))) (dss_cons (ds_ret de_bl)
      dss_nil) dss_nil)
      dss_nil))
      (dss_cons (ds_ret (de_eq hr.units (de_callC (c__law_refused fx) b__law_refused hr (by omega) tk (da_cons (de_fnG fx.g_led) (da_cons (de_lst (da_cons (de_var 0) (da_cons de_str (da_cons (de_cut (de_var 1) de_int trivial) (da_cons de_non (da_cons de_non da_nil)))))) da_nil))) (de_tup (da_cons de_str (da_cons (de_neg de_int) da_nil)))))
      dss_nil)))))))
noncomputable def D__law_numbers : SDen := sSeq (sSet 2 (dLstM (dNil))) (sSeq (sSet 3 (dC (.int 0))) (sSeq (sIf (dAnd (dBin oGt (dCall oLen (dCons (dVar 0) (dNil))) (dC (.int 0))) (dBin oGe (dBin oIx (dVar 0) (dC (.int 0))) (dBin oPow (dC (.int 10)) (dC (.int 18))))) (sSeq (sSet 3 (dBin oIx (dVar 0) (dC (.int 0)))) (sNil)) (sNil)) (sSeq (sFor (dRange1 (dVar 1)) (tName 4) (sSeq (sIf (dBin oEq (dCall oLen (dCons (dVar 0) (dNil))) (dC (.int 0))) (sSeq (sExpr (dApp (dVar 2) (dBin oPlus (dBin oMul (dVar 4) (dC (.int 43))) (dC (.int 14))))) (sNil)) (sSeq (sIf (dBin oGt (dVar 3) (dC (.int 0))) (sSeq (sExpr (dApp (dVar 2) (dBin oMod (dCall oInt1 (dCons (dVar 3) (dNil))) (dC (.int 100000007))))) (sSeq (sSet 3 (dBin oDiv (dVar 3) (dC (.int 100000007)))) (sNil))) (sSeq (sSet 5 (dBin oIx (dVar 0) (dBin oMod (dVar 4) (dCall oLen (dCons (dVar 0) (dNil)))))) (sSeq (sSet 6 (dBin oMod (dCall oInt1 (dCons (dBin oPlus (dBin oPlus (dBin oPlus (dBin oMul (dVar 5) (dC (.int 50021))) (dBin oMul (dVar 4) (dC (.int 27779)))) (dBin oMul (dCall oLen (dCons (dVar 0) (dNil))) (dC (.int 61813)))) (dC (.int 389))) (dNil))) (dC (.int 2147483647)))) (sSeq (sSet 6 (dBin oMod (dCall oInt1 (dCons (dBin oPlus (dBin oPlus (dBin oMul (dVar 6) (dVar 6)) (dBin oMul (dVar 4) (dC (.int 61813)))) (dC (.int 14))) (dNil))) (dC (.int 2147483629)))) (sSeq (sSet 6 (dBin oMod (dCall oInt1 (dCons (dBin oPlus (dBin oPlus (dBin oPlus (dBin oMul (dVar 6) (dVar 6)) (dBin oMul (dVar 6) (dC (.int 27779)))) (dC (.int 50021))) (dVar 4)) (dNil))) (dC (.int 2147483587)))) (sSeq (sExpr (dApp (dVar 2) (dBin oMod (dCall oInt1 (dCons (dVar 6) (dNil))) (dC (.int 100000007))))) (sNil))))))) (sNil))) (sNil))) (sSeq (sRet (dVar 2)) (sNil)))))
theorem Q__law_numbers : ∃ F : Op, F = fnOf ["_law_script", "_law_many", "_law_numbers_here", "_law_rest", "_law_k", "_law_cell", "_law_mixed"] D__law_numbers := ⟨_, rfl⟩
noncomputable def O__law_numbers : Op := Classical.choose Q__law_numbers
instance is__law_numbers : Is O__law_numbers ["_law_script", "_law_many", "_law_numbers_here", "_law_rest", "_law_k", "_law_cell", "_law_mixed"] D__law_numbers := ⟨Classical.choose_spec Q__law_numbers⟩
theorem sc__law_numbers : FnScope ["_law_script", "_law_many", "_law_numbers_here", "_law_rest", "_law_k", "_law_cell", "_law_mixed"] ["_law_script", "_law_many"] (defScope (top 42)) := ⟨rfl, rfl, rfl, by decide +kernel, rfl, by decide +kernel, by decide +kernel⟩
theorem b__law_numbers : BindsAll "_law_numbers" (top 42) ["_law_script", "_law_many"] := fun _ _ _ _ _ _ us hl => match us, hl with | [_, _], _ => rfl
theorem c__law_numbers (fx : Facts K mg) : Callee P w K mg base 1 "_law_numbers" (top 42) ["_law_script", "_law_many"] O__law_numbers := by
  obtain ⟨fd, F⟩ := fx.F__law_numbers
  refine ⟨fx.g__law_numbers, fd, F, ?_⟩
  rw [is__law_numbers.eq]
  refine fn_den F sc__law_numbers fun cdv A outer s H E hr tk => ?_
  have nd := sc__law_numbers.nd
  exact (dss_cons (ds_set 2 nd (de_lstM da_nil))
      (dss_cons (ds_set 3 nd de_int)
      (dss_cons (ds_if (DW.dt (dw_and (dt_gt (de_len fx.n_len (da_cons (de_var 0) da_nil)) de_int) (dw_and1 (dt_ge (de_ix (de_var 0) de_int) (de_pow de_int de_int))))) (dss_cons (ds_set 3 nd (de_ix (de_var 0) de_int))
      dss_nil) dss_nil)
      (dss_cons (ds_for (L2.passes_of rfl) rfl (di_range1 fx.n_range (de_var 1)) (dg_name 4 nd) (dss_cons (ds_if (dt_eq hr.units (de_len fx.n_len (da_cons (de_var 0) da_nil)) de_int) (dss_cons (ds_expr (de_app (de_var 2) (de_add (de_mul (de_var 4) de_int) de_int)))
      dss_nil) (dss_cons (ds_if (dt_gt (de_var 3) de_int) (dss_cons (ds_expr (de_app (de_var 2) (de_mod (de_callTy call_int1 callD_int1 (by decide +kernel) fx.n_int (da_cons (de_var 3) da_nil)) de_int)))
      (dss_cons (ds_set 3 nd (de_div (de_var 3) de_int))
      dss_nil)) (dss_cons (ds_set 5 nd (de_ix (de_var 0) (de_mod (de_var 4) (de_len fx.n_len (da_cons (de_var 0) da_nil)))))
      (dss_cons (ds_set 6 nd (de_mod (de_callTy call_int1 callD_int1 (by decide +kernel) fx.n_int (da_cons (de_add (de_add (de_add (de_mul (de_var 5) de_int) (de_mul (de_var 4) de_int)) (de_mul (de_len fx.n_len (da_cons (de_var 0) da_nil)) de_int)) de_int) da_nil)) de_int))
      (dss_cons (ds_set 6 nd (de_mod (de_callTy call_int1 callD_int1 (by decide +kernel) fx.n_int (da_cons (de_add (de_add (de_mul (de_var 6) (de_var 6)) (de_mul (de_var 4) de_int)) de_int) da_nil)) de_int))
      (dss_cons (ds_set 6 nd (de_mod (de_callTy call_int1 callD_int1 (by decide +kernel) fx.n_int (da_cons (de_add (de_add (de_add (de_mul (de_var 6) (de_var 6)) (de_mul (de_var 6) de_int)) de_int) (de_var 4)) da_nil)) de_int))
      (dss_cons (ds_expr (de_app (de_var 2) (de_mod (de_callTy call_int1 callD_int1 (by decide +kernel) fx.n_int (da_cons (de_var 6) da_nil)) de_int)))
      dss_nil))))))
      dss_nil))
      dss_nil))
      (dss_cons (ds_ret (de_var 2))
      dss_nil)))))
noncomputable def D__law_refusals : SDen := sSeq (sSet 4 (dCall oLen (dCons (dBin oIx (dVar 0) (dC (.int 0))) (dNil)))) (sSeq (sSet 5 (dTup (dCons (dC (.int 1)) (dCons (dC (.int 2)) (dNil))))) (sSeq (sSet 6 (dLst (dCons (dC .non) (dCons (dTup (dCons (dC (.int 1)) (dCons (dC (.int 1)) (dNil)))) (dCons (dTup (dCons (dC (.int 2)) (dCons (dC (.int 4)) (dNil)))) (dCons (dTup (dCons (dUn oNeg (dC (.int 1))) (dCons (dC (.int 2)) (dNil)))) (dCons (dTup (dCons (dC (.int 0)) (dCons (dC (.int 2)) (dNil)))) (dCons (dTup (dCons (dC (.bl true)) (dCons (dC (.int 2)) (dNil)))) (dCons (dLst (dCons (dC (.int 1)) (dCons (dC (.int 2)) (dNil)))) (dCons (dTup (dCons (dC (.int 3)) (dCons (dC (.int 2)) (dNil)))) (dCons (dC (.int 0)) (dCons (dTup (dCons (dTup (dCons (dC (.int 1)) (dCons (dC (.int 2)) (dNil)))) (dNil))) (dCons (dTup (dCons (dC (.int 1)) (dCons (dC (.int 2)) (dCons (dC (.int 1)) (dNil))))) (dNil)))))))))))))) (sSeq (sFor (dItems (dVar 6)) (tName 7) (sSeq (sIf (dOr (dIsNB false (dFn 1 O_is_die (dCons (dVar 7) (dNil)))) (dBin oNe (dFn 2 O__law_refused (dCons (dC (.fn "go_word")) (dCons (dLst (dCons (dVar 1) (dCons (dVar 3) (dCons (dC (.int 0)) (dCons (dVar 7) (dNil)))))) (dNil)))) (dTup (dCons (dC (.str "die")) (dCons (dUn oNeg (dC (.int 1))) (dNil)))))) (sSeq (sRet (dC (.bl false))) (sNil)) (sNil)) (sSeq (sIf (dBin oNe (dFn 2 O__law_refused (dCons (dC (.fn "stay_word")) (dCons (dLst (dCons (dVar 1) (dCons (dVar 3) (dCons (dC (.int 0)) (dCons (dVar 7) (dNil)))))) (dNil)))) (dTup (dCons (dC (.str "die")) (dCons (dUn oNeg (dC (.int 1))) (dNil))))) (sSeq (sRet (dC (.bl false))) (sNil)) (sNil)) (sSeq (sIf (dBin oNe (dFn 2 O__law_refused (dCons (dC (.fn "coin_word")) (dCons (dLst (dCons (dVar 2) (dCons (dVar 3) (dCons (dVar 7) (dNil))))) (dNil)))) (dTup (dCons (dC (.str "die")) (dCons (dUn oNeg (dC (.int 1))) (dNil))))) (sSeq (sRet (dC (.bl false))) (sNil)) (sNil)) (sSeq (sIf (dBin oNe (dFn 2 O__law_refused (dCons (dC (.fn "arrow_by")) (dCons (dLst (dCons (dVar 0) (dCons (dVar 3) (dCons (dVar 7) (dNil))))) (dNil)))) (dTup (dCons (dC (.str "die")) (dCons (dUn oNeg (dC (.int 1))) (dNil))))) (sSeq (sRet (dC (.bl false))) (sNil)) (sNil)) (sSeq (sFor (dItems (dLst (dCons (dTup (dCons (dTup (dCons (dVar 5) (dCons (dVar 7) (dNil)))) (dNil))) (dCons (dTup (dCons (dTup (dCons (dVar 5) (dCons (dVar 5) (dNil)))) (dCons (dTup (dCons (dVar 7) (dCons (dVar 5) (dNil)))) (dNil)))) (dNil))))) (tName 8) (sSeq (sIf (dBin oNe (dFn 2 O__law_refused (dCons (dC (.fn "led")) (dCons (dLst (dCons (dVar 0) (dCons (dC (.str "go")) (dCons (dVar 1) (dCons (dVar 3) (dCons (dVar 8) (dNil))))))) (dNil)))) (dTup (dCons (dC (.str "dice")) (dCons (dUn oNeg (dC (.int 1))) (dNil))))) (sSeq (sRet (dC (.bl false))) (sNil)) (sNil)) (sNil))) (sNil))))))) (sSeq (sFor (dItems (dLst (dCons (dC .non) (dCons (dUn oNeg (dC (.int 1))) (dCons (dVar 4) (dCons (dC (.bl true)) (dCons (dTup (dCons (dC (.int 0)) (dNil))) (dNil)))))))) (tName 9) (sSeq (sIf (dBin oNe (dFn 2 O__law_refused (dCons (dC (.fn "go_word")) (dCons (dLst (dCons (dVar 1) (dCons (dVar 9) (dCons (dUn oNeg (dC (.int 1))) (dCons (dC .non) (dNil)))))) (dNil)))) (dTup (dCons (dC (.str "place")) (dCons (dUn oNeg (dC (.int 1))) (dNil))))) (sSeq (sRet (dC (.bl false))) (sNil)) (sNil)) (sSeq (sIf (dBin oNe (dFn 2 O__law_refused (dCons (dC (.fn "stay_word")) (dCons (dLst (dCons (dVar 1) (dCons (dVar 9) (dCons (dUn oNeg (dC (.int 1))) (dCons (dC .non) (dNil)))))) (dNil)))) (dTup (dCons (dC (.str "place")) (dCons (dUn oNeg (dC (.int 1))) (dNil))))) (sSeq (sRet (dC (.bl false))) (sNil)) (sNil)) (sSeq (sIf (dBin oNe (dFn 2 O__law_refused (dCons (dC (.fn "coin_word")) (dCons (dLst (dCons (dVar 2) (dCons (dVar 9) (dCons (dC .non) (dNil))))) (dNil)))) (dTup (dCons (dC (.str "place")) (dCons (dUn oNeg (dC (.int 1))) (dNil))))) (sSeq (sRet (dC (.bl false))) (sNil)) (sNil)) (sSeq (sIf (dBin oNe (dFn 2 O__law_refused (dCons (dC (.fn "arrow_by")) (dCons (dLst (dCons (dVar 0) (dCons (dVar 9) (dCons (dC .non) (dNil))))) (dNil)))) (dTup (dCons (dC (.str "place")) (dCons (dUn oNeg (dC (.int 1))) (dNil))))) (sSeq (sRet (dC (.bl false))) (sNil)) (sNil)) (sSeq (sIf (dBin oNe (dFn 2 O__law_refused (dCons (dC (.fn "led")) (dCons (dLst (dCons (dVar 0) (dCons (dC (.str "coin")) (dCons (dVar 2) (dCons (dVar 9) (dCons (dC .non) (dNil))))))) (dNil)))) (dTup (dCons (dC (.str "place")) (dCons (dUn oNeg (dC (.int 1))) (dNil))))) (sSeq (sRet (dC (.bl false))) (sNil)) (sNil)) (sNil))))))) (sSeq (sRet (dC (.bl true))) (sNil))))))
theorem Q__law_refusals : ∃ F : Op, F = fnOf ["_law_web_here", "_law_brinks_here", "_law_coins_here", "_law_place", "_law_size", "_law_half", "_law_bad_die", "_law_die", "_law_dice", "_law_one"] D__law_refusals := ⟨_, rfl⟩
noncomputable def O__law_refusals : Op := Classical.choose Q__law_refusals
instance is__law_refusals : Is O__law_refusals ["_law_web_here", "_law_brinks_here", "_law_coins_here", "_law_place", "_law_size", "_law_half", "_law_bad_die", "_law_die", "_law_dice", "_law_one"] D__law_refusals := ⟨Classical.choose_spec Q__law_refusals⟩
theorem sc__law_refusals : FnScope ["_law_web_here", "_law_brinks_here", "_law_coins_here", "_law_place", "_law_size", "_law_half", "_law_bad_die", "_law_die", "_law_dice", "_law_one"] ["_law_web_here", "_law_brinks_here", "_law_coins_here", "_law_place"] (defScope (top 55)) := ⟨rfl, rfl, rfl, by decide +kernel, rfl, by decide +kernel, by decide +kernel⟩
theorem b__law_refusals : BindsAll "_law_refusals" (top 55) ["_law_web_here", "_law_brinks_here", "_law_coins_here", "_law_place"] := fun _ _ _ _ _ _ us hl => match us, hl with | [_, _, _, _], _ => rfl
theorem c__law_refusals (fx : Facts K mg) : Callee P w K mg base 13 "_law_refusals" (top 55) ["_law_web_here", "_law_brinks_here", "_law_coins_here", "_law_place"] O__law_refusals := by
  obtain ⟨fd, F⟩ := fx.F__law_refusals
  refine ⟨fx.g__law_refusals, fd, F, ?_⟩
  rw [is__law_refusals.eq]
  refine fn_den F sc__law_refusals fun cdv A outer s H E hr tk => ?_
  have nd := sc__law_refusals.nd
  exact (dss_cons (ds_set 4 nd (de_len fx.n_len (da_cons (de_ix (de_var 0) de_int) da_nil)))
      (dss_cons (ds_set 5 nd (de_tup (da_cons de_int (da_cons de_int da_nil))))
      (dss_cons (ds_set 6 nd (de_lst (da_cons de_non (da_cons (de_tup (da_cons de_int (da_cons de_int da_nil))) (da_cons (de_tup (da_cons de_int (da_cons de_int da_nil))) (da_cons (de_tup (da_cons (de_neg de_int) (da_cons de_int da_nil))) (da_cons (de_tup (da_cons de_int (da_cons de_int da_nil))) (da_cons (de_tup (da_cons de_bl (da_cons de_int da_nil))) (da_cons (de_lst (da_cons de_int (da_cons de_int da_nil))) (da_cons (de_tup (da_cons de_int (da_cons de_int da_nil))) (da_cons de_int (da_cons (de_tup (da_cons (de_tup (da_cons de_int (da_cons de_int da_nil))) da_nil)) (da_cons (de_tup (da_cons de_int (da_cons de_int (da_cons de_int da_nil)))) da_nil)))))))))))))
      (dss_cons (ds_for (L2.passes_of rfl) rfl (di_seq (de_var 6)) (dg_name 7 nd) (dss_cons (ds_if (DW.dt (dw_or (dt_isNB (de_callC (c_is_die fx) b_is_die hr (by omega) tk (da_cons (de_var 7) da_nil))) (dw_or1 (dt_ne hr.units (de_callC (c__law_refused fx) b__law_refused hr (by omega) tk (da_cons (de_fnG fx.g_go_word) (da_cons (de_lst (da_cons (de_var 1) (da_cons (de_var 3) (da_cons de_int (da_cons (de_var 7) da_nil))))) da_nil))) (de_tup (da_cons de_str (da_cons (de_neg de_int) da_nil))))))) (dss_cons (ds_ret de_bl)
      dss_nil) dss_nil)
      (dss_cons (ds_if (dt_ne hr.units (de_callC (c__law_refused fx) b__law_refused hr (by omega) tk (da_cons (de_fnG fx.g_stay_word) (da_cons (de_lst (da_cons (de_var 1) (da_cons (de_var 3) (da_cons de_int (da_cons (de_var 7) da_nil))))) da_nil))) (de_tup (da_cons de_str (da_cons (de_neg de_int) da_nil)))) (dss_cons (ds_ret de_bl)
      dss_nil) dss_nil)
      (dss_cons (ds_if (dt_ne hr.units (de_callC (c__law_refused fx) b__law_refused hr (by omega) tk (da_cons (de_fnG fx.g_coin_word) (da_cons (de_lst (da_cons (de_var 2) (da_cons (de_var 3) (da_cons (de_var 7) da_nil)))) da_nil))) (de_tup (da_cons de_str (da_cons (de_neg de_int) da_nil)))) (dss_cons (ds_ret de_bl)
      dss_nil) dss_nil)
      (dss_cons (ds_if (dt_ne hr.units (de_callC (c__law_refused fx) b__law_refused hr (by omega) tk (da_cons (de_fnG fx.g_arrow_by) (da_cons (de_lst (da_cons (de_var 0) (da_cons (de_var 3) (da_cons (de_var 7) da_nil)))) da_nil))) (de_tup (da_cons de_str (da_cons (de_neg de_int) da_nil)))) (dss_cons (ds_ret de_bl)
      dss_nil) dss_nil)
      (dss_cons (ds_for (L2.passes_of rfl) rfl (di_seq (de_lst (da_cons (de_tup (da_cons (de_tup (da_cons (de_var 5) (da_cons (de_var 7) da_nil))) da_nil)) (da_cons (de_tup (da_cons (de_tup (da_cons (de_var 5) (da_cons (de_var 5) da_nil))) (da_cons (de_tup (da_cons (de_var 7) (da_cons (de_var 5) da_nil))) da_nil))) da_nil)))) (dg_name 8 nd) (dss_cons (ds_if (dt_ne hr.units (de_callC (c__law_refused fx) b__law_refused hr (by omega) tk (da_cons (de_fnG fx.g_led) (da_cons (de_lst (da_cons (de_var 0) (da_cons de_str (da_cons (de_var 1) (da_cons (de_var 3) (da_cons (de_var 8) da_nil)))))) da_nil))) (de_tup (da_cons de_str (da_cons (de_neg de_int) da_nil)))) (dss_cons (ds_ret de_bl)
      dss_nil) dss_nil)
      dss_nil))
      dss_nil))))))
      (dss_cons (ds_for (L2.passes_of rfl) rfl (di_seq (de_lst (da_cons de_non (da_cons (de_neg de_int) (da_cons (de_var 4) (da_cons de_bl (da_cons (de_tup (da_cons de_int da_nil)) da_nil))))))) (dg_name 9 nd) (dss_cons (ds_if (dt_ne hr.units (de_callC (c__law_refused fx) b__law_refused hr (by omega) tk (da_cons (de_fnG fx.g_go_word) (da_cons (de_lst (da_cons (de_var 1) (da_cons (de_var 9) (da_cons (de_neg de_int) (da_cons de_non da_nil))))) da_nil))) (de_tup (da_cons de_str (da_cons (de_neg de_int) da_nil)))) (dss_cons (ds_ret de_bl)
      dss_nil) dss_nil)
      (dss_cons (ds_if (dt_ne hr.units (de_callC (c__law_refused fx) b__law_refused hr (by omega) tk (da_cons (de_fnG fx.g_stay_word) (da_cons (de_lst (da_cons (de_var 1) (da_cons (de_var 9) (da_cons (de_neg de_int) (da_cons de_non da_nil))))) da_nil))) (de_tup (da_cons de_str (da_cons (de_neg de_int) da_nil)))) (dss_cons (ds_ret de_bl)
      dss_nil) dss_nil)
      (dss_cons (ds_if (dt_ne hr.units (de_callC (c__law_refused fx) b__law_refused hr (by omega) tk (da_cons (de_fnG fx.g_coin_word) (da_cons (de_lst (da_cons (de_var 2) (da_cons (de_var 9) (da_cons de_non da_nil)))) da_nil))) (de_tup (da_cons de_str (da_cons (de_neg de_int) da_nil)))) (dss_cons (ds_ret de_bl)
      dss_nil) dss_nil)
      (dss_cons (ds_if (dt_ne hr.units (de_callC (c__law_refused fx) b__law_refused hr (by omega) tk (da_cons (de_fnG fx.g_arrow_by) (da_cons (de_lst (da_cons (de_var 0) (da_cons (de_var 9) (da_cons de_non da_nil)))) da_nil))) (de_tup (da_cons de_str (da_cons (de_neg de_int) da_nil)))) (dss_cons (ds_ret de_bl)
      dss_nil) dss_nil)
      (dss_cons (ds_if (dt_ne hr.units (de_callC (c__law_refused fx) b__law_refused hr (by omega) tk (da_cons (de_fnG fx.g_led) (da_cons (de_lst (da_cons (de_var 0) (da_cons de_str (da_cons (de_var 2) (da_cons (de_var 9) (da_cons de_non da_nil)))))) da_nil))) (de_tup (da_cons de_str (da_cons (de_neg de_int) da_nil)))) (dss_cons (ds_ret de_bl)
      dss_nil) dss_nil)
      dss_nil))))))
      (dss_cons (ds_ret de_bl)
      dss_nil))))))
noncomputable def D__law_web : SDen := sSeq (sSet 4 (dLstM (dNil))) (sSeq (sSet 5 (dVar 3)) (sSeq (sFor (dRange1 (dVar 2)) (tName 6) (sSeq (sSet 7 (dLcM [11] (dRange1 (dVar 2)) (.one 11) (dYes) (dC (.int 0)))) (sSeq (sSet 8 (dBin oIx (dVar 0) (dBin oPlus (dVar 1) (dVar 6)))) (sSeq (sFor (dRange1 (dVar 3)) (tName 9) (sSeq (sStore (dBin oPlus (dBin oIx (dVar 7) (dBin oMod (dCall oInt1 (dCons (dVar 8) (dNil))) (dVar 2))) (dC (.int 1))) (dVar 7) (dBin oMod (dCall oInt1 (dCons (dVar 8) (dNil))) (dVar 2))) (sSeq (sSet 8 (dBin oDiv (dVar 8) (dVar 2))) (sNil)))) (sSeq (sExpr (dApp (dVar 4) (dVar 7))) (sSeq (sFor (dItems (dVar 7)) (tName 10) (sSeq (sSet 5 (dFn 2 O__law_gcd (dCons (dVar 5) (dCons (dVar 10) (dNil))))) (sNil))) (sNil))))))) (sSeq (sRet (dTup (dCons (dCall oTuple1 (dCons (dLc [12] (dItems (dVar 4)) (.one 12) (dYes) (dCall oTuple1 (dCons (dLc [13] (dItems (dVar 12)) (.one 13) (dYes) (dBin oDiv (dVar 13) (dVar 5))) (dNil)))) (dNil))) (dCons (dBin oDiv (dVar 3) (dVar 5)) (dNil))))) (sNil))))
theorem Q__law_web : ∃ F : Op, F = fnOf ["_law_numbers_here", "_law_at", "_law_size", "_law_bottom", "_law_rows", "_law_part", "_law_i", "_law_row", "_law_code", "_law_k", "_law_one", "_law_j", "_law_line", "_law_cell"] D__law_web := ⟨_, rfl⟩
noncomputable def O__law_web : Op := Classical.choose Q__law_web
instance is__law_web : Is O__law_web ["_law_numbers_here", "_law_at", "_law_size", "_law_bottom", "_law_rows", "_law_part", "_law_i", "_law_row", "_law_code", "_law_k", "_law_one", "_law_j", "_law_line", "_law_cell"] D__law_web := ⟨Classical.choose_spec Q__law_web⟩
theorem sc__law_web : FnScope ["_law_numbers_here", "_law_at", "_law_size", "_law_bottom", "_law_rows", "_law_part", "_law_i", "_law_row", "_law_code", "_law_k", "_law_one", "_law_j", "_law_line", "_law_cell"] ["_law_numbers_here", "_law_at", "_law_size", "_law_bottom"] (defScope (top 45)) := ⟨rfl, rfl, rfl, by decide +kernel, rfl, by decide +kernel, by decide +kernel⟩
theorem b__law_web : BindsAll "_law_web" (top 45) ["_law_numbers_here", "_law_at", "_law_size", "_law_bottom"] := fun _ _ _ _ _ _ us hl => match us, hl with | [_, _, _, _], _ => rfl
theorem c__law_web (fx : Facts K mg) : Callee P w K mg base 2 "_law_web" (top 45) ["_law_numbers_here", "_law_at", "_law_size", "_law_bottom"] O__law_web := by
  obtain ⟨fd, F⟩ := fx.F__law_web
  refine ⟨fx.g__law_web, fd, F, ?_⟩
  rw [is__law_web.eq]
  refine fn_den F sc__law_web fun cdv A outer s H E hr tk => ?_
  have nd := sc__law_web.nd
  exact (dss_cons (ds_set 4 nd (de_lstM da_nil))
      (dss_cons (ds_set 5 nd (de_var 3))
      (dss_cons (ds_for (L2.passes_of rfl) rfl (di_range1 fx.n_range (de_var 2)) (dg_name 6 nd) (dss_cons (ds_setLcM 7 [("_law_j", 11)] (.one 11) rfl nd (by decide) (by exact blkB_ok (by kernel_rfl)) (di_range1 fx.n_range (de_var 2)) (fun _ _ _ _ _ => (pg_name nd rfl (by first | exact .inl rfl | exact .inr rfl) (by first | exact .inl rfl | exact .inr rfl))) (fun _ _ _ _ _ => dts_nil) (fun _ _ _ _ _ => de_int) (by rfl))
      (dss_cons (ds_set 8 nd (de_ix (de_var 0) (de_add (de_var 1) (de_var 6))))
      (dss_cons (ds_for (L2.passes_of rfl) rfl (di_range1 fx.n_range (de_var 3)) (dg_name 9 nd) (dss_cons (ds_store (de_add (de_ix (de_var 7) (de_mod (de_callTy call_int1 callD_int1 (by decide +kernel) fx.n_int (da_cons (de_var 8) da_nil)) (de_var 2))) de_int) (de_var 7) (de_mod (de_callTy call_int1 callD_int1 (by decide +kernel) fx.n_int (da_cons (de_var 8) da_nil)) (de_var 2)))
      (dss_cons (ds_set 8 nd (de_div (de_var 8) (de_var 2)))
      dss_nil)))
      (dss_cons (ds_expr (de_app (de_var 4) (de_var 7)))
      (dss_cons (ds_for (L2.passes_of rfl) rfl (di_seq (de_var 7)) (dg_name 10 nd) (dss_cons (ds_set 5 nd (de_callC (c__law_gcd fx) b__law_gcd hr (by omega) tk (da_cons (de_var 5) (da_cons (de_var 10) da_nil))))
      dss_nil))
      dss_nil))))))
      (dss_cons (ds_ret (de_tup (da_cons (de_callTy call_tuple_of callD_tuple1 (by decide +kernel) fx.n_tuple (da_cons (de_lc [("_law_line", 12)] (.one 12) rfl nd (by decide) (by exact blkB_ok (by kernel_rfl)) (di_seq (de_var 4)) (fun _ _ _ _ _ => (pg_name nd rfl (by first | exact .inl rfl | exact .inr rfl) (by first | exact .inl rfl | exact .inr rfl))) (fun _ _ _ _ _ => dts_nil) (fun _ _ _ _ _ => (de_callTy call_tuple_of callD_tuple1 (by decide +kernel) fx.n_tuple (da_cons (de_lc [("_law_cell", 13)] (.one 13) rfl nd (by decide) (by exact blkB_ok (by kernel_rfl)) (di_seq (de_var 12)) (fun _ _ _ _ _ => (pg_name nd rfl (by first | exact .inl rfl | exact .inr rfl) (by first | exact .inl rfl | exact .inr rfl))) (fun _ _ _ _ _ => dts_nil) (fun _ _ _ _ _ => (de_div (de_var 13) (de_var 5)))) da_nil)))) da_nil)) (da_cons (de_div (de_var 3) (de_var 5)) da_nil))))
      dss_nil))))
noncomputable def D__law_below : SDen := sSeq (sRet (dBin oLt (dBin oMul (dBin oIx (dVar 0) (dC (.int 0))) (dBin oIx (dVar 1) (dC (.int 1)))) (dBin oMul (dBin oIx (dVar 1) (dC (.int 0))) (dBin oIx (dVar 0) (dC (.int 1)))))) (sNil)
theorem Q__law_below : ∃ F : Op, F = fnOf ["_law_one", "_law_other"] D__law_below := ⟨_, rfl⟩
noncomputable def O__law_below : Op := Classical.choose Q__law_below
instance is__law_below : Is O__law_below ["_law_one", "_law_other"] D__law_below := ⟨Classical.choose_spec Q__law_below⟩
theorem sc__law_below : FnScope ["_law_one", "_law_other"] ["_law_one", "_law_other"] (defScope (top 52)) := ⟨rfl, rfl, rfl, by decide +kernel, rfl, by decide +kernel, by decide +kernel⟩
theorem b__law_below : BindsAll "_law_below" (top 52) ["_law_one", "_law_other"] := fun _ _ _ _ _ _ us hl => match us, hl with | [_, _], _ => rfl
theorem c__law_below (fx : Facts K mg) : Callee P w K mg base 1 "_law_below" (top 52) ["_law_one", "_law_other"] O__law_below := by
  obtain ⟨fd, F⟩ := fx.F__law_below
  refine ⟨fx.g__law_below, fd, F, ?_⟩
  rw [is__law_below.eq]
  refine fn_den F sc__law_below fun cdv A outer s H E hr tk => ?_
  have nd := sc__law_below.nd
  exact (dss_cons (ds_ret (de_lt (de_mul (de_ix (de_var 0) de_int) (de_ix (de_var 1) de_int)) (de_mul (de_ix (de_var 1) de_int) (de_ix (de_var 0) de_int))))
      dss_nil)
noncomputable def D__law_words : SDen := sSeq (sSet 6 (dBin oIx (dVar 1) (dVar 3))) (sSeq (sSet 7 (dOr (dIsN (dVar 6)) (dBin oLt (dVar 4) (dBin oIx (dVar 6) (dC (.int 0)))))) (sSeq (sIf (dNot (dTru (dVar 7))) (sSeq (sSet 7 (dAnd (dBin oEq (dVar 4) (dBin oIx (dVar 6) (dC (.int 0)))) (dFn 2 O__law_below (dCons (dVar 5) (dCons (dBin oIx (dVar 6) (dC (.int 1))) (dNil)))))) (sNil)) (sNil)) (sSeq (sIf (dBin oNe (dFn 4 O_go_word (dCons (dVar 1) (dCons (dVar 3) (dCons (dVar 4) (dCons (dVar 5) (dNil)))))) (dIf (dTru (dVar 7)) (dC (.str "go")) (dC (.str "stay")))) (sSeq (sRet (dC (.bl false))) (sNil)) (sNil)) (sSeq (sIf (dBin oNe (dFnK 4 4 [2, 3, 0, 1] O_go_word (dCons (dVar 4) (dCons (dVar 5) (dCons (dVar 1) (dCons (dVar 3) (dNil)))))) (dIf (dTru (dVar 7)) (dC (.str "go")) (dC (.str "stay")))) (sSeq (sRet (dC (.bl false))) (sNil)) (sNil)) (sSeq (sIf (dBin oNe (dFnK 4 4 [3, 2, 1, 0] O_stay_word (dCons (dVar 5) (dCons (dVar 4) (dCons (dVar 3) (dCons (dVar 1) (dNil)))))) (dIf (dTru (dVar 7)) (dC (.str "stay")) (dC (.str "go")))) (sSeq (sRet (dC (.bl false))) (sNil)) (sNil)) (sSeq (sIf (dBin oNe (dFnK 3 3 [2, 1, 0] O_coin_word (dCons (dVar 5) (dCons (dVar 3) (dCons (dVar 2) (dNil))))) (dIf (dTru (dFn 2 O__law_below (dCons (dVar 5) (dCons (dBin oIx (dVar 2) (dVar 3)) (dNil))))) (dC (.str "stay")) (dC (.str "go")))) (sSeq (sRet (dC (.bl false))) (sNil)) (sNil)) (sSeq (sSet 8 (dFnK 3 3 [2, 1, 0] O_arrow_by (dCons (dVar 5) (dCons (dVar 3) (dCons (dVar 0) (dNil)))))) (sSeq (sSet 9 (dC (.int 0))) (sSeq (sSet 10 (dBin oIx (dBin oIx (dBin oIx (dVar 0) (dC (.int 0))) (dVar 3)) (dC (.int 0)))) (sSeq (sFor (dRange2 (dC (.int 1)) (dCall oLen (dCons (dBin oIx (dVar 0) (dC (.int 0))) (dNil)))) (tName 11) (sSeq (sIf (dAnd (dBin oEq (dVar 9) (dBin oSub (dVar 11) (dC (.int 1)))) (dNot (dTru (dFn 2 O__law_below (dCons (dVar 5) (dCons (dTup (dCons (dVar 10) (dCons (dBin oIx (dVar 0) (dC (.int 1))) (dNil)))) (dNil))))))) (sSeq (sSet 9 (dVar 11)) (sSeq (sSet 10 (dBin oPlus (dVar 10) (dBin oIx (dBin oIx (dBin oIx (dVar 0) (dC (.int 0))) (dVar 3)) (dVar 11)))) (sNil))) (sNil)) (sNil))) (sSeq (sRet (dAnd (dIsi "int" (dVar 8)) (dAnd (dNot (dIsi "bool" (dVar 8))) (dBin oEq (dVar 8) (dVar 9))))) (sNil))))))))))))
theorem Q__law_words : ∃ F : Op, F = fnOf ["_law_web_here", "_law_brinks_here", "_law_coins_here", "_law_place", "_law_moment", "_law_die", "_law_brink", "_law_goes", "_law_told", "_law_due", "_law_heap", "_law_j"] D__law_words := ⟨_, rfl⟩
noncomputable def O__law_words : Op := Classical.choose Q__law_words
instance is__law_words : Is O__law_words ["_law_web_here", "_law_brinks_here", "_law_coins_here", "_law_place", "_law_moment", "_law_die", "_law_brink", "_law_goes", "_law_told", "_law_due", "_law_heap", "_law_j"] D__law_words := ⟨Classical.choose_spec Q__law_words⟩
theorem sc__law_words : FnScope ["_law_web_here", "_law_brinks_here", "_law_coins_here", "_law_place", "_law_moment", "_law_die", "_law_brink", "_law_goes", "_law_told", "_law_due", "_law_heap", "_law_j"] ["_law_web_here", "_law_brinks_here", "_law_coins_here", "_law_place", "_law_moment", "_law_die"] (defScope (top 53)) := ⟨rfl, rfl, rfl, by decide +kernel, rfl, by decide +kernel, by decide +kernel⟩
theorem b__law_words : BindsAll "_law_words" (top 53) ["_law_web_here", "_law_brinks_here", "_law_coins_here", "_law_place", "_law_moment", "_law_die"] := fun _ _ _ _ _ _ us hl => match us, hl with | [_, _, _, _, _, _], _ => rfl
theorem c__law_words (fx : Facts K mg) : Callee P w K mg base 10 "_law_words" (top 53) ["_law_web_here", "_law_brinks_here", "_law_coins_here", "_law_place", "_law_moment", "_law_die"] O__law_words := by
  obtain ⟨fd, F⟩ := fx.F__law_words
  refine ⟨fx.g__law_words, fd, F, ?_⟩
  rw [is__law_words.eq]
  refine fn_den F sc__law_words fun cdv A outer s H E hr tk => ?_
  have nd := sc__law_words.nd
  exact (dss_cons (ds_set 6 nd (de_ix (de_var 1) (de_var 3)))
      (dss_cons (ds_set 7 nd (de_or (de_isN (de_var 6)) (de_one (de_lt (de_var 4) (de_ix (de_var 6) de_int)))))
      (dss_cons (ds_if (dt_not (dt_truth (de_var 7))) (dss_cons (ds_set 7 nd (de_and (de_eq hr.units (de_var 4) (de_ix (de_var 6) de_int)) (de_one (de_callC (c__law_below fx) b__law_below hr (by omega) tk (da_cons (de_var 5) (da_cons (de_ix (de_var 6) de_int) da_nil))))))
      dss_nil) dss_nil)
      (dss_cons (ds_if (dt_ne hr.units (de_callC (c_go_word fx) b_go_word hr (by omega) tk (da_cons (de_var 1) (da_cons (de_var 3) (da_cons (de_var 4) (da_cons (de_var 5) da_nil))))) (de_if (dt_truth (de_var 7)) de_str de_str)) (dss_cons (ds_ret de_bl)
      dss_nil) dss_nil)
      (dss_cons (ds_if (dt_ne hr.units (de_callKC [2, 3, 0, 1] (c_go_word fx) bk_go_word_many_die_brinks_place hr (by omega) tk (dk_cons (de_var 4) (dk_cons (de_var 5) (dk_cons (de_var 1) (dk_cons (de_var 3) dk_nil))))) (de_if (dt_truth (de_var 7)) de_str de_str)) (dss_cons (ds_ret de_bl)
      dss_nil) dss_nil)
      (dss_cons (ds_if (dt_ne hr.units (de_callKC [3, 2, 1, 0] (c_stay_word fx) bk_stay_word_die_many_place_brinks hr (by omega) tk (dk_cons (de_var 5) (dk_cons (de_var 4) (dk_cons (de_var 3) (dk_cons (de_var 1) dk_nil))))) (de_if (dt_truth (de_var 7)) de_str de_str)) (dss_cons (ds_ret de_bl)
      dss_nil) dss_nil)
      (dss_cons (ds_if (dt_ne hr.units (de_callKC [2, 1, 0] (c_coin_word fx) bk_coin_word_die_place_coins hr (by omega) tk (dk_cons (de_var 5) (dk_cons (de_var 3) (dk_cons (de_var 2) dk_nil)))) (de_if (dt_truth (de_callC (c__law_below fx) b__law_below hr (by omega) tk (da_cons (de_var 5) (da_cons (de_ix (de_var 2) (de_var 3)) da_nil)))) de_str de_str)) (dss_cons (ds_ret de_bl)
      dss_nil) dss_nil)
      (dss_cons (ds_set 8 nd (de_callKC [2, 1, 0] (c_arrow_by fx) bk_arrow_by_die_place_web hr (by omega) tk (dk_cons (de_var 5) (dk_cons (de_var 3) (dk_cons (de_var 0) dk_nil)))))
      (dss_cons (ds_set 9 nd de_int)
      (dss_cons (ds_set 10 nd (de_ix (de_ix (de_ix (de_var 0) de_int) (de_var 3)) de_int))
      (dss_cons (ds_for (L2.passes_of rfl) rfl (di_range2 fx.n_range de_int (de_len fx.n_len (da_cons (de_ix (de_var 0) de_int) da_nil))) (dg_name 11 nd) (dss_cons (ds_if (DW.dt (dw_and (dt_eq hr.units (de_var 9) (de_sub (de_var 11) de_int)) (dw_and1 (dt_not (dt_truth (de_callC (c__law_below fx) b__law_below hr (by omega) tk (da_cons (de_var 5) (da_cons (de_tup (da_cons (de_var 10) (da_cons (de_ix (de_var 0) de_int) da_nil))) da_nil)))))))) (dss_cons (ds_set 9 nd (de_var 11))
      (dss_cons (ds_set 10 nd (de_add (de_var 10) (de_ix (de_ix (de_ix (de_var 0) de_int) (de_var 3)) (de_var 11))))
      dss_nil)) dss_nil)
      dss_nil))
      (dss_cons (ds_ret (de_and (de_isi (de_var 8) fx.n_isinstance fx.n_int (by decide +kernel) (by decide)) (de_and (de_not (de_isi (de_var 8) fx.n_isinstance fx.n_bool (by decide +kernel) (by decide))) (de_one (de_eq hr.units (de_var 8) (de_var 9))))))
      dss_nil))))))))))))
noncomputable def D_law : SDen := sSeq (sSet 1 (dFn 2 O__law_numbers (dCons (dVar 0) (dCons (dC (.int 24)) (dNil))))) (sSeq (sSet 2 (dBin oMod (dBin oIx (dVar 1) (dC (.int 0))) (dC (.int 5)))) (sSeq (sSet 3 (dBin oIx (dLst (dCons (dC (.int 2)) (dCons (dC (.int 3)) (dCons (dC (.int 2)) (dCons (dC (.int 4)) (dCons (dC (.int 6)) (dNil))))))) (dVar 2))) (sSeq (sSet 4 (dBin oIx (dLst (dCons (dC (.int 3)) (dCons (dC (.int 2)) (dCons (dC (.int 4)) (dCons (dC (.int 2)) (dCons (dC (.int 1)) (dNil))))))) (dVar 2))) (sSeq (sSet 5 (dBin oPlus (dC (.int 2)) (dBin oMod (dBin oIx (dVar 1) (dC (.int 1))) (dC (.int 2))))) (sSeq (sSet 6 (dFn 4 O__law_web (dCons (dVar 1) (dCons (dC (.int 2)) (dCons (dVar 5) (dCons (dVar 3) (dNil))))))) (sSeq (sSet 7 (dFn 5 O__law_brinks (dCons (dVar 1) (dCons (dC (.int 5)) (dCons (dVar 5) (dCons (dVar 3) (dCons (dVar 4) (dNil)))))))) (sSeq (sSet 8 (dFn 5 O__law_brinks (dCons (dVar 1) (dCons (dC (.int 8)) (dCons (dVar 5) (dCons (dVar 3) (dCons (dVar 4) (dNil)))))))) (sSeq (sSet 9 (dFn 4 O__law_coins (dCons (dVar 1) (dCons (dC (.int 11)) (dCons (dVar 5) (dCons (dVar 3) (dNil))))))) (sSeq (sSet 10 (dBin oMod (dBin oIx (dVar 1) (dC (.int 14))) (dVar 5))) (sSeq (sFor (dItems (dLst (dCons (dTup (dCons (dC (.str "go")) (dCons (dVar 7) (dNil)))) (dCons (dTup (dCons (dC (.str "stay")) (dCons (dVar 8) (dNil)))) (dCons (dTup (dCons (dC (.str "coin")) (dCons (dVar 9) (dNil)))) (dNil)))))) (PD.tTup 2 (PD.tCons (tName 11) (PD.tCons (tName 12) (PD.tNil)))) (sSeq (sIf (dOr (dBin oIn (dVar 2) (dTup (dCons (dC (.int 0)) (dCons (dC (.int 1)) (dCons (dC (.int 4)) (dNil)))))) (dBin oEq (dVar 11) (dBin oIx (dLst (dCons (dC (.str "go")) (dCons (dC (.str "stay")) (dCons (dC (.str "coin")) (dNil))))) (dBin oMod (dBin oIx (dVar 1) (dC (.int 15))) (dC (.int 3)))))) (sSeq (sIf (dNot (dTru (dFn 6 O__law_all_dice (dCons (dVar 6) (dCons (dVar 11) (dCons (dVar 12) (dCons (dVar 10) (dCons (dVar 3) (dCons (dVar 4) (dNil)))))))))) (sSeq (sRet (dC (.bl false))) (sNil)) (sNil)) (sNil)) (sNil)) (sNil))) (sSeq (sFor (dRange1 (dC (.int 16))) (tName 13) (sSeq (sSet 14 (dFn 2 O__law_lowest (dCons (dBin oMod (dCall oInt1 (dCons (dBin oDiv (dBin oIx (dVar 1) (dBin oPlus (dC (.int 16)) (dBin oMod (dVar 13) (dC (.int 8))))) (dBin oIx (dLst (dCons (dC (.int 1)) (dCons (dC (.int 60)) (dNil)))) (dBin oDiv (dVar 13) (dC (.int 8))))) (dNil))) (dC (.int 60))) (dCons (dC (.int 60)) (dNil))))) (sSeq (sIf (dBin oEq (dBin oMod (dVar 13) (dC (.int 3))) (dC (.int 0))) (sSeq (sSet 14 (dFn 2 O__law_lowest (dCons (dBin oMod (dBin oDiv (dVar 13) (dC (.int 3))) (dVar 3)) (dCons (dVar 3) (dNil))))) (sNil)) (sNil)) (sSeq (sSet 15 (dBin oMod (dCall oInt1 (dCons (dBin oPlus (dVar 10) (dVar 13)) (dNil))) (dVar 5))) (sSeq (sIf (dOr (dIsNB true (dFnK 1 1 [0] O_is_die (dCons (dVar 14) (dNil)))) (dNot (dTru (dFn 6 O__law_words (dCons (dVar 6) (dCons (dVar 7) (dCons (dVar 9) (dCons (dVar 15) (dCons (dBin oMod (dVar 13) (dC (.int 5))) (dCons (dVar 14) (dNil))))))))))) (sSeq (sRet (dC (.bl false))) (sNil)) (sNil)) (sSeq (sIf (dNot (dTru (dFn 6 O__law_words (dCons (dVar 6) (dCons (dVar 8) (dCons (dVar 9) (dCons (dVar 15) (dCons (dBin oMod (dVar 13) (dC (.int 3))) (dCons (dVar 14) (dNil)))))))))) (sSeq (sRet (dC (.bl false))) (sNil)) (sNil)) (sNil))))))) (sSeq (sSet 16 (dCall oTuple1 (dCons (dLc [17] (dItems (dVar 9)) (.one 17) (dYes) (dTup (dCons (dC (.int 1)) (dCons (dC (.int 1)) (dNil))))) (dNil)))) (sSeq (sIf (dBin oNe (dFn 5 O_led (dCons (dVar 6) (dCons (dC (.str "coin")) (dCons (dVar 16) (dCons (dVar 10) (dCons (dTup (dCons (dTup (dCons (dTup (dCons (dC (.int 1)) (dCons (dC (.int 2)) (dNil)))) (dCons (dTup (dCons (dC (.int 1)) (dCons (dC (.int 2)) (dNil)))) (dNil)))) (dCons (dTup (dCons (dTup (dCons (dC (.int 0)) (dCons (dC (.int 1)) (dNil)))) (dCons (dTup (dCons (dC (.int 0)) (dCons (dC (.int 1)) (dNil)))) (dNil)))) (dNil)))) (dNil))))))) (dTup (dCons (dTup (dCons (dVar 10) (dNil))) (dCons (dC (.bl true)) (dNil))))) (sSeq (sRet (dC (.bl false))) (sNil)) (sNil)) (sSeq (sIf (dBin oNe (dFnK 5 5 [4, 3, 2, 1, 0] O_led (dCons (dTup (dNil)) (dCons (dVar 10) (dCons (dVar 7) (dCons (dC (.str "go")) (dCons (dVar 6) (dNil))))))) (dTup (dCons (dTup (dCons (dVar 10) (dNil))) (dCons (dC (.bl false)) (dNil))))) (sSeq (sRet (dC (.bl false))) (sNil)) (sNil)) (sSeq (sRet (dAnd (dFn 4 O__law_refusals (dCons (dVar 6) (dCons (dVar 7) (dCons (dVar 9) (dCons (dVar 10) (dNil)))))) (dFn 4 O__law_marks_refused (dCons (dVar 6) (dCons (dVar 7) (dCons (dVar 9) (dCons (dVar 10) (dNil)))))))) (sNil))))))))))))))))
theorem Q_law : ∃ F : Op, F = fnOf ["_law_script", "_law_numbers_here", "_law_kind", "_law_bottom", "_law_many", "_law_size", "_law_web_here", "_law_brinks_here", "_law_others", "_law_coins_here", "_law_place", "_law_manner", "_law_marks", "_law_k", "_law_die", "_law_where", "_law_sure", "_law_i"] D_law := ⟨_, rfl⟩
noncomputable def O_law : Op := Classical.choose Q_law
instance is_law : Is O_law ["_law_script", "_law_numbers_here", "_law_kind", "_law_bottom", "_law_many", "_law_size", "_law_web_here", "_law_brinks_here", "_law_others", "_law_coins_here", "_law_place", "_law_manner", "_law_marks", "_law_k", "_law_die", "_law_where", "_law_sure", "_law_i"] D_law := ⟨Classical.choose_spec Q_law⟩
theorem sc_law : FnScope ["_law_script", "_law_numbers_here", "_law_kind", "_law_bottom", "_law_many", "_law_size", "_law_web_here", "_law_brinks_here", "_law_others", "_law_coins_here", "_law_place", "_law_manner", "_law_marks", "_law_k", "_law_die", "_law_where", "_law_sure", "_law_i"] ["_law_script"] (defScope (top 57)) := ⟨rfl, rfl, rfl, by decide +kernel, rfl, by decide +kernel, by decide +kernel⟩
theorem b_law : BindsAll "law" (top 57) ["_law_script"] := fun _ _ _ _ _ _ us hl => match us, hl with | [_], _ => rfl
theorem c_law (fx : Facts K mg) : Callee P w K mg base 14 "law" (top 57) ["_law_script"] O_law := by
  obtain ⟨fd, F⟩ := fx.F_law
  refine ⟨fx.g_law, fd, F, ?_⟩
  rw [is_law.eq]
  refine fn_den F sc_law fun cdv A outer s H E hr tk => ?_
  have nd := sc_law.nd
  exact (dss_cons (ds_set 1 nd (de_callC (c__law_numbers fx) b__law_numbers hr (by omega) tk (da_cons (de_var 0) (da_cons de_int da_nil))))
      (dss_cons (ds_set 2 nd (de_mod (de_ix (de_var 1) de_int) de_int))
      (dss_cons (ds_set 3 nd (de_ix (de_lst (da_cons de_int (da_cons de_int (da_cons de_int (da_cons de_int (da_cons de_int da_nil)))))) (de_var 2)))
      (dss_cons (ds_set 4 nd (de_ix (de_lst (da_cons de_int (da_cons de_int (da_cons de_int (da_cons de_int (da_cons de_int da_nil)))))) (de_var 2)))
      (dss_cons (ds_set 5 nd (de_add de_int (de_mod (de_ix (de_var 1) de_int) de_int)))
      (dss_cons (ds_set 6 nd (de_callC (c__law_web fx) b__law_web hr (by omega) tk (da_cons (de_var 1) (da_cons de_int (da_cons (de_var 5) (da_cons (de_var 3) da_nil))))))
      (dss_cons (ds_set 7 nd (de_callC (c__law_brinks fx) b__law_brinks hr (by omega) tk (da_cons (de_var 1) (da_cons de_int (da_cons (de_var 5) (da_cons (de_var 3) (da_cons (de_var 4) da_nil)))))))
      (dss_cons (ds_set 8 nd (de_callC (c__law_brinks fx) b__law_brinks hr (by omega) tk (da_cons (de_var 1) (da_cons de_int (da_cons (de_var 5) (da_cons (de_var 3) (da_cons (de_var 4) da_nil)))))))
      (dss_cons (ds_set 9 nd (de_callC (c__law_coins fx) b__law_coins hr (by omega) tk (da_cons (de_var 1) (da_cons de_int (da_cons (de_var 5) (da_cons (de_var 3) da_nil))))))
      (dss_cons (ds_set 10 nd (de_mod (de_ix (de_var 1) de_int) (de_var 5)))
      (dss_cons (ds_for (L2.passes_of rfl) rfl (di_seq (de_lst (da_cons (de_tup (da_cons de_str (da_cons (de_var 7) da_nil))) (da_cons (de_tup (da_cons de_str (da_cons (de_var 8) da_nil))) (da_cons (de_tup (da_cons de_str (da_cons (de_var 9) da_nil))) da_nil))))) (dg_tup rfl (dgs_cons (dg_name 11 nd) (dgs_cons (dg_name 12 nd) dgs_nil))) (dss_cons (ds_if (DW.dt (dw_or (dt_in hr.units (de_var 2) (de_tup (da_cons de_int (da_cons de_int (da_cons de_int da_nil))))) (dw_or1 (dt_eq hr.units (de_var 11) (de_ix (de_lst (da_cons de_str (da_cons de_str (da_cons de_str da_nil)))) (de_mod (de_ix (de_var 1) de_int) de_int)))))) (dss_cons (ds_if (dt_not (dt_truth (de_callC (c__law_all_dice fx) b__law_all_dice hr (by omega) tk (da_cons (de_var 6) (da_cons (de_var 11) (da_cons (de_var 12) (da_cons (de_var 10) (da_cons (de_var 3) (da_cons (de_var 4) da_nil))))))))) (dss_cons (ds_ret de_bl)
      dss_nil) dss_nil)
      dss_nil) dss_nil)
      dss_nil))
      (dss_cons (ds_for (L2.passes_of rfl) rfl (di_range1 fx.n_range de_int) (dg_name 13 nd) (dss_cons (ds_set 14 nd (de_callC (c__law_lowest fx) b__law_lowest hr (by omega) tk (da_cons (de_mod (de_callTy call_int1 callD_int1 (by decide +kernel) fx.n_int (da_cons (de_div (de_ix (de_var 1) (de_add de_int (de_mod (de_var 13) de_int))) (de_ix (de_lst (da_cons de_int (da_cons de_int da_nil))) (de_div (de_var 13) de_int))) da_nil)) de_int) (da_cons de_int da_nil))))
      (dss_cons (ds_if (dt_eq hr.units (de_mod (de_var 13) de_int) de_int) (dss_cons (ds_set 14 nd (de_callC (c__law_lowest fx) b__law_lowest hr (by omega) tk (da_cons (de_mod (de_div (de_var 13) de_int) (de_var 3)) (da_cons (de_var 3) da_nil))))
      dss_nil) dss_nil)
      (dss_cons (ds_set 15 nd (de_mod (de_callTy call_int1 callD_int1 (by decide +kernel) fx.n_int (da_cons (de_add (de_var 10) (de_var 13)) da_nil)) (de_var 5)))
      (dss_cons (ds_if (DW.dt (dw_or (dt_isNB (de_callKC [0] (c_is_die fx) bk_is_die_thing hr (by omega) tk (dk_cons (de_var 14) dk_nil))) (dw_or1 (dt_not (dt_truth (de_callC (c__law_words fx) b__law_words hr (by omega) tk (da_cons (de_var 6) (da_cons (de_var 7) (da_cons (de_var 9) (da_cons (de_var 15) (da_cons (de_mod (de_var 13) de_int) (da_cons (de_var 14) da_nil)))))))))))) (dss_cons (ds_ret de_bl)
      dss_nil) dss_nil)
      (dss_cons (ds_if (dt_not (dt_truth (de_callC (c__law_words fx) b__law_words hr (by omega) tk (da_cons (de_var 6) (da_cons (de_var 8) (da_cons (de_var 9) (da_cons (de_var 15) (da_cons (de_mod (de_var 13) de_int) (da_cons (de_var 14) da_nil))))))))) (dss_cons (ds_ret de_bl)
      dss_nil) dss_nil)
      dss_nil))))))
      (dss_cons (ds_set 16 nd (de_callTy call_tuple_of callD_tuple1 (by decide +kernel) fx.n_tuple (da_cons (de_lc [("_law_i", 17)] (.one 17) rfl nd (by decide) (by exact blkB_ok (by kernel_rfl)) (di_seq (de_var 9)) (fun _ _ _ _ _ => (pg_name nd rfl (by first | exact .inl rfl | exact .inr rfl) (by first | exact .inl rfl | exact .inr rfl))) (fun _ _ _ _ _ => dts_nil) (fun _ _ _ _ _ => (de_tup (da_cons de_int (da_cons de_int da_nil))))) da_nil)))
      (dss_cons (ds_if (dt_ne hr.units (de_callC (c_led fx) b_led hr (by omega) tk (da_cons (de_var 6) (da_cons de_str (da_cons (de_var 16) (da_cons (de_var 10) (da_cons (de_tup (da_cons (de_tup (da_cons (de_tup (da_cons de_int (da_cons de_int da_nil))) (da_cons (de_tup (da_cons de_int (da_cons de_int da_nil))) da_nil))) (da_cons (de_tup (da_cons (de_tup (da_cons de_int (da_cons de_int da_nil))) (da_cons (de_tup (da_cons de_int (da_cons de_int da_nil))) da_nil))) da_nil))) da_nil)))))) (de_tup (da_cons (de_tup (da_cons (de_var 10) da_nil)) (da_cons de_bl da_nil)))) (dss_cons (ds_ret de_bl)
      dss_nil) dss_nil)
      (dss_cons (ds_if (dt_ne hr.units (de_callKC [4, 3, 2, 1, 0] (c_led fx) bk_led_dice_place_marks_manner_web hr (by omega) tk (dk_cons (de_tup da_nil) (dk_cons (de_var 10) (dk_cons (de_var 7) (dk_cons de_str (dk_cons (de_var 6) dk_nil)))))) (de_tup (da_cons (de_tup (da_cons (de_var 10) da_nil)) (da_cons de_bl da_nil)))) (dss_cons (ds_ret de_bl)
      dss_nil) dss_nil)
      (dss_cons (ds_ret (de_and (de_callC (c__law_refusals fx) b__law_refusals hr (by omega) tk (da_cons (de_var 6) (da_cons (de_var 7) (da_cons (de_var 9) (da_cons (de_var 10) da_nil))))) (de_one (de_callC (c__law_marks_refused fx) b__law_marks_refused hr (by omega) tk (da_cons (de_var 6) (da_cons (de_var 7) (da_cons (de_var 9) (da_cons (de_var 10) da_nil))))))))
      dss_nil))))))))))))))))
end
end My
set_option Elab.async false
set_option linter.all false
set_option maxRecDepth 100000
set_option maxHeartbeats 4000000
set_option exponentiation.threshold 20000
namespace My
open PySem PySem.Spec PyProof.Rows L2 PD
/-! the package's loads: the functions of each law that has them -/
theorem v_is_integer (S : Store) (d : D) (h : told d = true) : O_is_integer [d] S = some (.ok (.bl (whole d)) S) := by
  refine fn_rtS ?_ rfl
  cases d <;> simp [told, tyName] at h <;> simp [D_is_integer, startD, tyName, isTy, whole]
def numb : D → Bool
  | .int i => decide (0 ≤ i)
  | _ => false
def isPair : D → Bool
  | .tup xs => ((xs.length : Int) == 2)
  | _ => false
theorem v_is_pair (S : Store) (d : D) (h : told d = true) : O_is_pair [d] S = some (.ok (.bl (isPair d)) S) := by
  refine fn_rtS ?_ rfl
  cases d <;> simp [told, tyName] at h <;> simp [D_is_pair, startD, tyName, isTy, isPair]
theorem v_is_number (S : Store) (d : D) (h : told d = true) : O_is_number [d] S = some (.ok (.bl (numb d)) S) := by
  refine fn_rtS ?_ rfl
  simp [D_is_number, startD, v_is_integer S d h]
  cases d <;> simp [whole, numb, oGe]
def bott : D → Bool
  | .int i => decide (1 ≤ i)
  | _ => false
theorem v_is_bottom (S : Store) (d : D) (h : told d = true) : O_is_bottom [d] S = some (.ok (.bl (bott d)) S) := by
  refine fn_rtS ?_ rfl
  simp [D_is_bottom, startD, v_is_integer S d h]
  cases d <;> simp [whole, bott, oGe]
def tell : D → Bool
  | .tup xs => xs.all told
  | d => told d
theorem tell_told {d : D} (h : tell d = true) : told d = true := by
  cases d <;> simp_all [tell, told, tyName]
theorem v_require_yes (S : Store) (x : Str) : O_require [.bl true, .str x] S = some (.ok .non S) := by
  refine fn_nx (ρ := [some (.bl true), some (.str x)]) ?_
  simp [D_require, startD, truth]
theorem v_require_no (S : Store) (x : Str) : O_require [.bl false, .str x] S = some (.exc "NotUsable" ["at", "word"] [.int (-1), .str x] S) := by
  refine fn_exc (ρ := [some (.bl false), some (.str x)]) ?_ rfl
  simp [D_require, startD, truth, sRaise]
theorem gcd_nat (a b : Int) : ((Nat.gcd a.natAbs b.natAbs : Nat) : Int) = (Int.gcd a b : Int) := rfl
abbrev ld (ts : List Int) (b : Int) : D := .tup [.tup (ts.map .int), .int b]
def ival : D → Int
  | .int i => i
  | _ => 0
def numsB (n : Int) : D → Bool
  | .tup xs => ((xs.length : Int) == n) && xs.all numb
  | _ => false
abbrev pr (a b : Int) : D := .tup [.int a, .int b]
theorem numb_ints : ∀ {xs : List D}, xs.all numb = true → xs = (xs.map ival).map .int
  | [], _ => rfl
  | x :: xs, h => by
    simp only [List.all_cons, Bool.and_eq_true] at h
    have h1 := numb_ints h.2
    rw [List.map_cons, List.map_cons, ← h1]
    cases x <;> simp [numb] at h <;> rfl
def loadB (n : Int) : D → Bool
  | .tup [x, y] => numsB n x && bott y && (match x, y with
    | .tup xs, .int b => cd (xs.map ival ++ [b]) == 1
    | _, _ => false)
  | _ => false
def tellL : D → Bool
  | .tup xs => xs.all fun x => tell x && (match x with
    | .tup ys => decide (ys.length ≤ 1000)
    | _ => true)
  | d => told d
/-- a load in lowest terms from tops and a bottom -/
def lf (ts : List Int) (b : Int) : D := ld (lowT ts b) (lowB ts b)
theorem closed_ld (ts : List Int) (b : Int) : closed (ld ts b) = true := by
  simp only [closed, closeds, closeds_map_int, Bool.and_self]
def lvl (ts us : List Int) (b c : Int) (i : Nat) : D := pr (gt ts i * c) (gt us i * b)
structure Two (ts us : List Int) (b c : Int) : Prop where
  len : us.length = ts.length
  few : ts.length ≤ 1000
  ts_ : ∀ x ∈ ts, small x
  us_ : ∀ x ∈ us, small x
  b1 : 1 ≤ b
  c1 : 1 ≤ c
  b_ : small b
  c_ : small c
  tl : tellL (ld us c) = true
  lo : loadB ts.length (ld us c) = true
theorem Two.bc {ts us : List Int} {b c : Int} (h : Two ts us b c) : 1 ≤ b * c ∧ (b * c).natAbs < 2 ^ 9000 := by
  refine ⟨?_, Nat.lt_of_lt_of_le (natAbs_mul_lt h.b_ h.c_) (Nat.pow_le_pow_right (by decide) (by decide))⟩
  have := Int.mul_pos (a := b) (b := c) (by have := h.b1; omega) (by have := h.c1; omega)
  omega
def by2 (g : Int → Int → Int) (ts us : List Int) (b c : Int) : List Int := (List.range ts.length).map fun i => g (gt ts i * c) (gt us i * b)
theorem by2_map (g : Int → Int → Int) (ts us : List Int) (b c : Int) : ((List.range ts.length).map fun i => D.int (g (gt ts i * c) (gt us i * b))) = (by2 g ts us b c).map .int := by
  unfold by2; rw [List.map_map]; rfl
theorem by2_len (g : Int → Int → Int) (ts us : List Int) (b c : Int) : (by2 g ts us b c).length = ts.length := by simp [by2]
def above (ts us : List Int) (b c : Int) : List Nat := (List.range ts.length).filter fun i => decide (gt ts i * c > gt us i * b)
def enough (ts us : List Int) (b c : Int) : Bool := (List.range ts.length).all fun i => decide (gt ts i * c ≥ gt us i * b)
section
variable {ts us : List Int} {b c : Int}
end
end My
set_option Elab.async false
set_option linter.all false
set_option maxRecDepth 100000
set_option maxHeartbeats 4000000
set_option exponentiation.threshold 20000
namespace My
open PySem PySem.Spec PyProof.Rows L2 PD
/-! ### quotients -/
theorem small_lt {a : Int} {B : Nat} (h0 : 0 ≤ a) (h1 : a < 2 ^ B) (hB : B ≤ 2000) : small a := by
  unfold small
  have h2 : a < 2 ^ 2000 := by have := pow_le hB; omega
  have h3 : ((a.natAbs : Nat) : Int) < ((2 ^ 2000 : Nat) : Int) := by
    rw [Int.natAbs_of_nonneg h0]
    exact_mod_cast h2
  exact Int.ofNat_lt.mp h3
/-- a load of n places in lowest terms, small -/
structure Lo (n : Nat) (ts : List Int) (b : Int) : Prop where
  len : ts.length = n
  n1 : 1 ≤ n
  nk : n ≤ 60
  nn : ∀ t ∈ ts, 0 ≤ t
  ss : ∀ t ∈ ts, small t
  b1 : 1 ≤ b
  bs : small b
  lo : cd (ts ++ [b]) = 1
def quot : D → Bool
  | .tup [.int a, .int b] => decide (1 ≤ b) && (((Nat.gcd a.natAbs b.natAbs : Nat) : Int) == 1)
  | _ => false
theorem v_is_quotient (S : Store) (d : D) (h : tell d = true) : O_is_quotient [d] S = some (.ok (.bl (quot d)) S) := by
  refine fn_rtS ?_ rfl
  have ht := tell_told h
  simp only [D_is_quotient, startD]
  by_cases hp : isPair d = true
  · match d, hp with
    | .tup [x, y], _ =>
      simp only [tell, List.all_cons, List.all_nil, Bool.and_true, Bool.and_eq_true] at h
      obtain ⟨hx, hy⟩ := h
      have ht2 : told (.tup [x, y]) = true := rfl
      simp [v_is_pair S _ ht2, isPair, v_is_integer _ x hx, v_is_bottom _ y hy]
      cases x <;> simp_all [whole, quot, told, tyName] <;> cases y <;> simp_all [bott, quot, told, tyName]
      rename_i a b _
      by_cases hb : 1 ≤ b <;> simp [hb]
    | .tup [], hp => simp [isPair] at hp
    | .tup [_], hp => simp [isPair] at hp
    | .tup (_ :: _ :: _ :: _), hp => simp [isPair] at hp; omega
  · have hq : quot d = false := by
      cases d with
      | tup xs => 
        match xs with
        | [] => rfl
        | [z] => cases z <;> rfl
        | [_, _] => exact absurd rfl hp
        | _ :: _ :: _ :: _ => cases xs <;> simp [quot]
      | _ => rfl
    simp [v_is_pair S d ht, hp, hq]
theorem v_require_quotients_yes (S : Store) (p q : D) (hp : tell p = true) (hq : tell q = true) (h1 : quot p = true) (h2 : quot q = true) : O_require_quotients [p, q] S = some (.ok .non S) := by
  refine fn_nx (ρ := [some p, some q]) ?_
  simp [D_require_quotients, startD, v_is_quotient S p hp, v_is_quotient S q hq, h1, h2, v_require_yes]
theorem v_require_quotients_one (S : Store) (p q : D) (hp : tell p = true) (h1 : quot p = false) : O_require_quotients [p, q] S = some (.exc "NotUsable" ["at", "word"] [.int (-1), .str "one"] S) := by
  refine fn_exc (ρ := [some p, some q]) ?_ rfl
  simp [D_require_quotients, startD, v_is_quotient S p hp, h1, v_require_no]
theorem v_require_quotients_other (S : Store) (p q : D) (hp : tell p = true) (hq : tell q = true) (h1 : quot p = true) (h2 : quot q = false) : O_require_quotients [p, q] S = some (.exc "NotUsable" ["at", "word"] [.int (-1), .str "other"] S) := by
  refine fn_exc (ρ := [some p, some q]) ?_ rfl
  simp [D_require_quotients, startD, v_is_quotient S p hp, v_is_quotient S q hq, h1, h2, v_require_yes, v_require_no]
def red (a b : Int) : D := if b < 0 then .tup [.int (-a / (Int.gcd a b : Int)), .int (-b / (Int.gcd a b : Int))] else .tup [.int (a / (Int.gcd a b : Int)), .int (b / (Int.gcd a b : Int))]
theorem gcd_small {a b : Int} (hb : b ≠ 0) (h : b.natAbs < 2 ^ 9000) : 0 < (Int.gcd a b : Int) ∧ ((Int.gcd a b : Int)).natAbs.log2 < 9000 := by
  have h1 := Int.gcd_pos_of_ne_zero_right a hb
  have h2 : Int.gcd a b ≤ b.natAbs := Nat.gcd_le_right _ (Int.natAbs_pos.mpr hb)
  refine ⟨by omega, ?_⟩
  rw [Int.natAbs_natCast]
  exact (Nat.log2_lt (by omega)).mpr (by omega)
theorem quot_pr {a b : Int} : quot (pr a b) = true ↔ 1 ≤ b ∧ Int.gcd a b = 1 := by
  simp only [quot, Bool.and_eq_true, decide_eq_true_eq, beq_iff_eq]
  refine and_congr_right fun _ => ?_
  show ((Int.gcd a b : Nat) : Int) = 1 ↔ _
  omega
theorem v_is_less (S : Store) (a b c e : Int) (h1 : quot (pr a b) = true) (h2 : quot (pr c e) = true) (ha : small a) (hb : small b) (hc : small c) (he : small e) : O_is_less [pr a b, pr c e] S = some (.ok (.bl (decide (a * e < c * b))) S) := by
  refine fn_rtS ?_ rfl
  simp [D_is_less, startD, v_require_quotients_yes S (pr a b) (pr c e) rfl rfl h1 h2, e_mulI ha he, e_mulI hc hb, oLt]
theorem red_spec (a b : Int) (hb : b ≠ 0) : ∃ x y, red a b = pr x y ∧ 1 ≤ y ∧ Int.gcd x y = 1 ∧ x * b = a * y ∧ x.natAbs ≤ a.natAbs ∧ y.natAbs ≤ b.natAbs := by
  have gp := Int.gcd_pos_of_ne_zero_right a hb
  have gz : (Int.gcd a b : Int) ≠ 0 := by omega
  have ga : (Int.gcd a b : Int) ∣ a := Int.gcd_dvd_left ..
  have gb : (Int.gcd a b : Int) ∣ b := Int.gcd_dvd_right ..
  obtain ⟨u, hu⟩ := ga
  obtain ⟨v, hv⟩ := gb
  generalize hg : (Int.gcd a b : Int) = g at *
  have g1 : 1 ≤ g := by omega
  have cop : Int.gcd u v = 1 := by
    have h := Int.gcd_mul_left g u v
    rw [← hu, ← hv] at h
    have h2 : (Int.gcd a b : Int) = g * (Int.gcd u v : Int) := by rw [h]; simp [Int.natAbs_of_nonneg (by omega : 0 ≤ g)]
    rw [hg] at h2
    have h3 : g * ((Int.gcd u v : Int) - 1) = 0 := by rw [Int.mul_sub]; omega
    rcases Int.mul_eq_zero.mp h3 with z | z
    · omega
    · omega
  have le : ∀ z : Int, z.natAbs ≤ (g * z).natAbs := fun z => by
    rw [Int.natAbs_mul]
    exact Nat.le_mul_of_pos_left _ (by omega)
  unfold red
  rw [hg]
  have du : a / g = u := by rw [hu]; exact Int.mul_ediv_cancel_left _ gz
  have dv : b / g = v := by rw [hv]; exact Int.mul_ediv_cancel_left _ gz
  have du' : -a / g = -u := by rw [hu, ← Int.mul_neg]; exact Int.mul_ediv_cancel_left _ gz
  have dv' : -b / g = -v := by rw [hv, ← Int.mul_neg]; exact Int.mul_ediv_cancel_left _ gz
  split
  · rename_i hn
    have vn : v < 0 := by
      apply Int.lt_of_not_ge
      intro z
      have := Int.mul_nonneg (by omega : 0 ≤ g) z
      omega
    refine ⟨-u, -v, by rw [du', dv'], by omega, by rw [Int.gcd_neg, Int.neg_gcd]; exact cop, ?_, ?_, ?_⟩
    · rw [hu, hv]; simp only [Int.mul_neg, Int.neg_mul]; rw [Int.mul_left_comm, Int.mul_assoc]
    · rw [Int.natAbs_neg]; conv => rhs; rw [hu]
      exact le u
    · rw [Int.natAbs_neg]; conv => rhs; rw [hv]
      exact le v
  · rename_i hn
    have vp : 1 ≤ v := by
      apply Int.not_lt.mp
      intro z
      have : v ≤ 0 := by omega
      have := Int.mul_nonpos_of_nonneg_of_nonpos (by omega : 0 ≤ g) this
      omega
    refine ⟨u, v, by rw [du, dv], vp, cop, ?_, ?_, ?_⟩
    · rw [hu, hv]; simp [Int.mul_assoc, Int.mul_left_comm, Int.mul_comm]
    · conv => rhs; rw [hu]
      exact le u
    · conv => rhs; rw [hv]
      exact le v
def amount : D → Bool
  | .tup [.int a, .int b] => quot (pr a b) && decide (0 ≤ a)
  | _ => false
theorem v_is_amount (S : Store) (d : D) (h : tell d = true) : O_is_amount [d] S = some (.ok (.bl (amount d)) S) := by
  refine fn_rtS ?_ rfl
  simp [D_is_amount, startD, v_is_quotient S d h]
  by_cases hq : quot d = true
  · unfold quot at hq
    split at hq
    · rename_i a b
      simp [amount, quot, hq, oGe]
    · cases hq
  · have : amount d = false := by
      unfold amount
      split
      · rename_i a b
        simp [hq]
      · rfl
    simp [hq, this]
def amounts : D → Bool
  | .tup xs => decide (0 < xs.length) && xs.all amount
  | _ => false
def tells : D → Bool
  | .tup xs => xs.all tell && decide (xs.length ≤ 1000)
  | d => told d
structure One (ts : List Int) (b : Int) : Prop where
  few : ts.length ≤ 1000
  ts_ : ∀ x ∈ ts, small x
  b1 : 1 ≤ b
  b_ : small b
theorem One.lt {ts : List Int} {b : Int} (h : One ts b) : b.natAbs < 2 ^ 9000 := Nat.lt_of_lt_of_le h.b_ (Nat.pow_le_pow_right (by decide) (by decide))
theorem red_closed (a b : Int) : closed (red a b) = true := by unfold red; split <;> rfl
theorem v_is_below (S : Store) (n : Int) (d : D) (h : told d = true) : O_is_below [.int n, d] S = some (.ok (.bl (numb d && decide (ival d < n))) S) := by
  refine fn_rtS ?_ rfl
  simp [D_is_below, startD, v_is_number S d h]
  cases d <;> simp [numb, ival, oLt]
  rename_i i
  by_cases h0 : 0 ≤ i
  · simp [h0]
    exact decide_eq_decide.mpr Iff.rfl
  · simp [h0]
end My
set_option Elab.async false
set_option linter.all false
set_option maxRecDepth 100000
set_option maxHeartbeats 1000000
set_option exponentiation.threshold 20000
namespace My
open PySem PySem.Spec PyProof.Rows L2 PD
theorem x_or {f g : Den} {ρ : EnvD} {S : Store} {p q : Bool} (h1 : f ρ S = some (.ok (.bl p) S)) (h2 : p = false → g ρ S = some (.ok (.bl q) S)) : dOr f g ρ S = some (.ok (.bl (p || q)) S) := by
  rw [e_or, h1, bndB_ok]
  cases p
  · exact h2 rfl
  · rfl
def tellK : D → Bool
  | .tup xs => xs.all tell && decide (xs.length ≤ 1000)
  | d => told d
def smallQ : D → Bool
  | .tup [.int a, .int b] => decide (a.natAbs < 2 ^ 2000) && decide (b.natAbs < 2 ^ 2000)
  | _ => true
def lessOne : D → Bool
  | .tup [.int a, .int b] => decide (a * 1 < 1 * b)
  | _ => false
def brinkB : D → Bool
  | .tup [x, y] => numb x && (amount y && lessOne y)
  | _ => false
theorem amount_get {y : D} (h : amount y = true) : ∃ a b, y = pr a b ∧ quot (pr a b) = true := by
  unfold amount at h
  split at h
  · simp only [Bool.and_eq_true] at h
    exact ⟨_, _, rfl, h.1⟩
  · cases h
theorem v_is_brink (S : Store) (d : D) (h : tellK d = true) (hs : ∀ x y, d = .tup [x, y] → smallQ y = true) : O_is_brink [d] S = some (.ok (.bl (brinkB d)) S) := by
  refine fn_rtS ?_ rfl
  have st : startD ["thing"] [d] = [some d] := rfl
  simp only [D_is_brink]
  rw [st]
  have ht : told d = true := by cases d <;> simp_all [tellK, told, tyName]
  have ip := v_is_pair S d ht
  by_cases hp : isPair d = true
  · match d, hp with
    | .tup [x, y], _ =>
      simp only [tellK, List.all_cons, List.all_nil, Bool.and_true, Bool.and_eq_true] at h
      obtain ⟨⟨hx, hy⟩, _⟩ := h
      have sy := hs x y rfl
      rw [show isPair (.tup [x, y]) = true from rfl] at ip
      have n1 := v_is_number S x (tell_told hx)
      have a1 := v_is_amount S y hy
      have e : brinkB (.tup [x, y]) = (numb x && (amount y && lessOne y)) := rfl
      rw [e]
      refine q_ret (x_andT (x_f1 rfl ip) (x_and (x_f1 (x_bin rfl rfl (e_ix0 _ _ S)) n1) fun _ => x_and (x_f1 (x_bin rfl rfl (e_ix1 _ _ _ S)) a1) fun ha => ?_))
      obtain ⟨a, b, rfl, hq⟩ := amount_get ha
      simp only [smallQ, pr, Bool.and_eq_true, decide_eq_true_eq] at sy
      have l := v_is_less S a b 1 1 hq (by decide +kernel) sy.1 sy.2 (by unfold small; exact Nat.one_lt_two_pow (by decide)) (by unfold small; exact Nat.one_lt_two_pow (by decide))
      exact x_f2 (x_bin rfl rfl (e_ix1 _ _ _ S)) (x_tup (y_cons rfl (y_cons rfl y_nil)) rfl) l
    | .tup [], hp => simp [isPair] at hp
    | .tup [_], hp => simp [isPair] at hp
    | .tup (_ :: _ :: _ :: _), hp => simp [isPair] at hp; omega
  · have hf : isPair d = false := Bool.eq_false_iff.mpr hp
    rw [hf] at ip
    have e : brinkB d = false := by
      unfold brinkB
      split
      · exact absurd rfl hp
      · rfl
    rw [e]
    exact q_ret (x_andF (x_f1 rfl ip))
/-- a brink or none -/
def bonB (d : D) : Bool := isNon d || brinkB d
def okK (d : D) : Prop := tellK d = true ∧ ∀ x y, d = .tup [x, y] → smallQ y = true
def brinksB : D → Bool
  | .tup xs => xs.all bonB
  | _ => false
theorem v_are_brinks (S : Store) (d : D) (ht : told d = true) (h : ∀ xs, d = .tup xs → xs.length ≤ 1000 ∧ ∀ x ∈ xs, okK x) : O_are_brinks [d] S = some (.ok (.bl (brinksB d)) S) := by
  refine fn_rtS ?_ rfl
  have st : startD ["thing", "brink"] [d] = [some d, none] := rfl
  simp only [D_are_brinks]
  rw [st]
  cases d with
  | tup xs =>
    obtain ⟨hl, hx⟩ := h xs rfl
    have l := lc_map (own := [1]) (t := .one 1) (elt := dOr (dIsN (dVar 1)) (dFn 1 O_is_brink (dCons (dVar 1) (dNil)))) (f := dItems (dVar 0)) (ρ := [some (.tup xs), none]) (S := S) (items := xs) (fun x => .bl (bonB x)) (fun x => [some (.tup xs), some x]) rfl
      (fun _ _ => rfl) (fun x hx' T => by
        refine x_or (p := isNon x) (q := brinkB x) rfl fun _ => x_f1 rfl (v_is_brink T x (hx x hx').1 (hx x hx').2)) (by omega) (by simp [closeds_all, closed])
    exact q_ret (x_andT rfl (x_c1 l (e_all _ _ _)))
  | non => rfl
  | bl _ => rfl
  | int _ => rfl
  | str _ => rfl
  | lst _ => rfl
  | scr _ => rfl
  | ref _ => rfl
  | rng _ _ => simp [told, tyName] at ht
  | err _ _ _ => simp [told, tyName] at ht
  | cau _ _ _ _ _ => simp [told, tyName] at ht
  | fn _ => simp [told, tyName] at ht
def brinksN (n : Nat) : D → Bool
  | .tup xs => xs.all bonB && decide (xs.length = n)
  | _ => false
theorem v_is_brinks (S : Store) (n : Nat) (d : D) (ht : told d = true) (h : ∀ xs, d = .tup xs → xs.length ≤ 1000 ∧ ∀ x ∈ xs, okK x) : O_is_brinks [.int (n : Nat), d] S = some (.ok (.bl (brinksN n d)) S) := by
  refine fn_rtS ?_ rfl
  have st : startD ["size", "thing"] [.int (n : Nat), d] = [some (.int (n : Nat)), some d] := rfl
  simp only [D_is_brinks]
  rw [st]
  have ab := v_are_brinks S d ht h
  cases d with
  | tup xs =>
    refine q_ret (x_and (x_f1 rfl ab) fun _ => ?_)
    refine (x_bin (x_c1 rfl (e_lenT xs S)) rfl (o_eqI _ _ S)).trans ?_
    have : (((xs.length : Nat) : Int) == ((n : Nat) : Int)) = decide (xs.length = n) := by
      rw [Bool.eq_iff_iff, beq_iff_eq, decide_eq_true_eq]
      omega
    rw [this]
  | _ => exact q_ret (x_andF (x_f1 rfl ab))
end My
set_option Elab.async false
set_option linter.all false
set_option maxRecDepth 100000
set_option maxHeartbeats 1000000
set_option exponentiation.threshold 20000
namespace My
open PySem PySem.Spec PyProof.Rows L2 PD
/-! ### coins, dice -/
theorem small_one : small 1 := by unfold small; exact Nat.one_lt_two_pow (by decide)
/-- at most one -/
def upOne : D → Bool
  | .tup [.int a, .int b] => !decide (1 * b < a * 1)
  | _ => false
def coinB (d : D) : Bool := amount d && upOne d
def coinsB : D → Bool
  | .tup xs => xs.all coinB
  | _ => false
def okQ (d : D) : Prop := tell d = true ∧ smallQ d = true
theorem v_are_coins (S : Store) (d : D) (ht : told d = true) (h : ∀ xs, d = .tup xs → xs.length ≤ 1000 ∧ ∀ x ∈ xs, okQ x) : O_are_coins [d] S = some (.ok (.bl (coinsB d)) S) := by
  refine fn_rtS ?_ rfl
  have st : startD ["thing", "coin"] [d] = [some d, none] := rfl
  simp only [D_are_coins]
  rw [st]
  cases d with
  | tup xs =>
    obtain ⟨hl, hx⟩ := h xs rfl
    have l := lc_map (own := [1]) (t := .one 1) (elt := dAnd (dFn 1 O_is_amount (dCons (dVar 1) (dNil))) (dNot (dFn 2 O_is_less (dCons (dTup (dCons (dC (.int 1)) (dCons (dC (.int 1)) (dNil)))) (dCons (dVar 1) (dNil)))))) (f := dItems (dVar 0)) (ρ := [some (.tup xs), none]) (S := S) (items := xs) (fun x => .bl (coinB x)) (fun x => [some (.tup xs), some x]) rfl
      (fun _ _ => rfl) (fun x hx' T => by
        obtain ⟨h1, h2⟩ := hx x hx'
        refine x_and (p := amount x) (q := upOne x) (x_f1 rfl (v_is_amount T x h1)) fun ha => ?_
        obtain ⟨a, b, rfl, hq⟩ := amount_get ha
        simp only [smallQ, pr, Bool.and_eq_true, decide_eq_true_eq] at h2
        have l := v_is_less T 1 1 a b (by decide +kernel) hq small_one small_one h2.1 h2.2
        exact x_not (x_f2 (x_tup (y_cons rfl (y_cons rfl y_nil)) rfl) rfl l)) (by omega) (by simp [closeds_all, closed])
    exact q_ifF (x_notT rfl) (q_ret (x_c1 l (e_all _ _ _)))
  | non => rfl
  | bl _ => rfl
  | int _ => rfl
  | str _ => rfl
  | lst _ => rfl
  | scr _ => rfl
  | ref _ => rfl
  | rng _ _ => simp [told, tyName] at ht
  | err _ _ _ => simp [told, tyName] at ht
  | cau _ _ _ _ _ => simp [told, tyName] at ht
  | fn _ => simp [told, tyName] at ht
def coinsN (n : Nat) : D → Bool
  | .tup xs => xs.all coinB && decide (xs.length = n)
  | _ => false
theorem v_is_coins (S : Store) (n : Nat) (d : D) (ht : told d = true) (h : ∀ xs, d = .tup xs → xs.length ≤ 1000 ∧ ∀ x ∈ xs, okQ x) : O_is_coins [.int (n : Nat), d] S = some (.ok (.bl (coinsN n d)) S) := by
  refine fn_rtS ?_ rfl
  have st : startD ["size", "thing"] [.int (n : Nat), d] = [some (.int (n : Nat)), some d] := rfl
  simp only [D_is_coins]
  rw [st]
  have ab := v_are_coins S d ht h
  cases d with
  | tup xs =>
    refine q_ret (x_and (x_f1 rfl ab) fun _ => ?_)
    refine (x_bin (x_c1 rfl (e_lenT xs S)) rfl (o_eqI _ _ S)).trans ?_
    have : (((xs.length : Nat) : Int) == ((n : Nat) : Int)) = decide (xs.length = n) := by
      rw [Bool.eq_iff_iff, beq_iff_eq, decide_eq_true_eq]
      omega
    rw [this]
  | _ => exact q_ret (x_andF (x_f1 rfl ab))
def dieB (d : D) : Bool := amount d && lessOne d
theorem v_is_die (S : Store) (d : D) (h : okQ d) : O_is_die [d] S = some (.ok (.bl (dieB d)) S) := by
  refine fn_rtS ?_ rfl
  have st : startD ["thing"] [d] = [some d] := rfl
  simp only [D_is_die]
  rw [st]
  refine q_ret (x_and (p := amount d) (q := lessOne d) (x_f1 rfl (v_is_amount S d h.1)) fun ha => ?_)
  obtain ⟨a, b, rfl, hq⟩ := amount_get ha
  have h2 := h.2
  simp only [smallQ, pr, Bool.and_eq_true, decide_eq_true_eq] at h2
  exact x_f2 rfl (x_tup (y_cons rfl (y_cons rfl y_nil)) rfl) (v_is_less S a b 1 1 hq (by decide +kernel) h2.1 h2.2 small_one small_one)
theorem v_require_die_yes (S : Store) (d : D) (h : okQ d) (hd : dieB d = true) : O_require_die [d] S = some (.ok .non S) := by
  have e := v_is_die S d h
  rw [hd] at e
  refine fn_nx (ρ := [some d]) ?_
  simp only [D_require_die]
  exact q_expr (x_f2 (x_f1 rfl e) rfl (v_require_yes S "die")) rfl
theorem v_require_die_no (S : Store) (d : D) (h : okQ d) (hd : dieB d = false) : O_require_die [d] S = some (.exc "NotUsable" ["at", "word"] [.int (-1), .str "die"] S) := by
  have e := v_is_die S d h
  rw [hd] at e
  refine fn_exc (ρ := [some d]) ?_ rfl
  simp only [D_require_die]
  exact q_exc (x_f2 (x_f1 rfl e) rfl (v_require_no S "die"))
theorem v_require_number_yes (d : D) (x : Str) (S : Store) (h : O_is_number [d] S = some (.ok (.bl true) S)) : O_require_number [d, .str x] S = some (.ok .non S) := by
  refine fn_nx (ρ := [some d, some (.str x)]) ?_
  simp only [D_require_number]
  exact q_expr (x_f2 (x_f1 rfl h) rfl (v_require_yes S x)) rfl
theorem v_require_number_no (d : D) (x : Str) (S : Store) (h : O_is_number [d] S = some (.ok (.bl false) S)) : O_require_number [d, .str x] S = some (.exc "NotUsable" ["at", "word"] [.int (-1), .str x] S) := by
  refine fn_exc (ρ := [some d, some (.str x)]) ?_ rfl
  simp only [D_require_number]
  exact q_exc (x_f2 (x_f1 rfl h) rfl (v_require_no S x))
/-! ### a brink's word -/
/-- a mark: never, or a number and a share -/
def early (b : Option (Nat × Int × Int)) (t : Nat) (x y : Int) : Bool := match b with
  | none => true
  | some (k, p, q) => decide (t < k) || (decide (t = k) && decide (x * q < p * y))
def bD : Option (Nat × Int × Int) → D
  | none => .non
  | some (k, p, q) => .tup [.int (k : Nat), pr p q]
structure Die (x y : Int) : Prop where
  q : quot (pr x y) = true
  x0 : 0 ≤ x
  lt : x < y
  sx : small x
  sy : small y
theorem Die.ok {x y : Int} (h : Die x y) : okQ (pr x y) := ⟨rfl, by
  have a := h.sx
  have b := h.sy
  unfold small at a b
  simp [smallQ, pr, a, b]⟩
theorem Die.die {x y : Int} (h : Die x y) : dieB (pr x y) = true := by
  have := h.x0
  have := h.lt
  simp only [dieB, amount, lessOne, pr, Bool.and_eq_true, decide_eq_true_eq]
  exact ⟨⟨h.q, h.x0⟩, by omega⟩
def GoodB (b : Option (Nat × Int × Int)) : Prop := ∀ k p q, b = some (k, p, q) → Die p q
theorem v_is_early {b : Option (Nat × Int × Int)} (hb : GoodB b) {x y : Int} (d : Die x y) (t : Nat) (S : Store) : O_is_early [bD b, .int (t : Nat), pr x y] S = some (.ok (.bl (early b t x y)) S) := by
  refine fn_rtS ?_ rfl
  have st : startD ["brink", "moment", "die"] [bD b, .int (t : Nat), pr x y] = [some (bD b), some (.int (t : Nat)), some (pr x y)] := rfl
  simp only [D_is_early]
  rw [st]
  match b, hb with
  | none, _ => exact q_ifR (x_orT rfl) (q_ret rfl)
  | some (k, p, q), hb =>
    have dd := hb k p q rfl
    have i0 : dBin oIx (dVar 0) (dC (.int 0)) [some (bD (some (k, p, q))), some (.int (t : Nat)), some (pr x y)] S = some (.ok (.int (k : Nat)) S) := x_bin rfl rfl (e_ix0 _ _ S)
    have lt : dBin oLt (dVar 1) (dBin oIx (dVar 0) (dC (.int 0))) [some (bD (some (k, p, q))), some (.int (t : Nat)), some (pr x y)] S = some (.ok (.bl (decide (t < k))) S) := by
      refine (x_bin rfl i0 rfl).trans ?_
      show some (Res.ok (.bl (decide ((t : Int) < (k : Int)))) S) = _
      simp
    by_cases h : t < k
    · have e : early (some (k, p, q)) t x y = true := by simp [early, h]
      rw [e]
      rw [decide_eq_true h] at lt
      exact q_ifR (x_orF rfl lt) (q_ret rfl)
    · rw [decide_eq_false h] at lt
      have e : early (some (k, p, q)) t x y = (decide (t = k) && decide (x * q < p * y)) := by simp [early, h]
      rw [e]
      have eq : dBin oEq (dVar 1) (dBin oIx (dVar 0) (dC (.int 0))) [some (bD (some (k, p, q))), some (.int (t : Nat)), some (pr x y)] S = some (.ok (.bl (decide (t = k))) S) := by
        refine (x_bin rfl i0 (o_eqI _ _ S)).trans ?_
        have : (((t : Nat) : Int) == ((k : Nat) : Int)) = decide (t = k) := by
          rw [Bool.eq_iff_iff, beq_iff_eq, decide_eq_true_eq]
          omega
        rw [this]
      exact q_ifF (x_orF rfl lt) (q_ret (x_and eq fun _ => x_f2 rfl (x_bin rfl rfl (e_ix1 _ _ _ S)) (v_is_less S x y p q d.q dd.q d.sx d.sy dd.sx dd.sy)))
end My
set_option Elab.async false
set_option linter.all false
set_option maxRecDepth 100000
set_option maxHeartbeats 1000000
set_option exponentiation.threshold 20000
namespace My
open PySem PySem.Spec PyProof.Rows L2 PD
/-! ### the words of marks -/
def nu (y : Str) (S : Store) : Option Res := some (.exc "NotUsable" ["at", "word"] [.int (-1), .str y] S)
theorem nu_exc {O : Op} {N : List Str} {g : SDen} [i : Is O N g] {ds : List D} {S : Store} {ρ : EnvD} {y : Str} (h : g (startD N ds) S = some (.exc "NotUsable" ["at", "word"] [.int (-1), .str y] ρ S)) : O ds S = nu y S := fn_exc h rfl
/-- marks that are brinks, n of them -/
structure BW (B : D) (n : Nat) : Prop where
  ar : ∀ S, O_are_brinks [B] S = some (.ok (.bl true) S)
  ln : ∀ S, oLen [B] S = some (.ok (.int (n : Nat)) S)
  n1 : 1 ≤ n
section
variable {B p m d : D} {n : Nat} {S : Store}
theorem rbw_start (B p m d : D) : startD ["brinks", "place", "many", "die"] [B, p, m, d] = [some B, some p, some m, some d] := rfl
theorem rb1 (h : BW B n) (S : Store) : dFn 2 O_require (dCons (dAnd (dFn 1 O_are_brinks (dCons (dVar 0) (dNil))) (dBin oGt (dCall oLen (dCons (dVar 0) (dNil))) (dC (.int 0)))) (dCons (dC (.str "brinks")) (dNil))) [some B, some p, some m, some d] S = some (.ok .non S) := by
  have n1 := h.n1
  have g : dBin oGt (dCall oLen (dCons (dVar 0) (dNil))) (dC (.int 0)) [some B, some p, some m, some d] S = some (.ok (.bl true) S) := by
    refine (x_bin (x_c1 rfl (h.ln S)) rfl (o_gtI _ _ S)).trans ?_
    rw [decide_eq_true (by omega)]
  exact x_f2 (x_andT (x_f1 rfl (h.ar S)) g) rfl (v_require_yes S "brinks")
theorem rb2 (h : BW B n) (ht : told p = true) {k : Bool} (hk : (numb p && decide (ival p < n)) = k) (S : Store) : dFn 2 O_is_below (dCons (dCall oLen (dCons (dVar 0) (dNil))) (dCons (dVar 1) (dNil))) [some B, some p, some m, some d] S = some (.ok (.bl k) S) := by
  rw [← hk]
  exact x_f2 (x_c1 rfl (h.ln S)) rfl (v_is_below S n p ht)
theorem rbw_yes (h : BW B n) (ht : told p = true) (hp : (numb p && decide (ival p < n)) = true) (hm : told m = true) (hm2 : numb m = true) (hd : okQ d) (hd2 : dieB d = true) (S : Store) : O_require_brink_word [B, p, m, d] S = some (.ok .non S) := by
  refine fn_nx (ρ := [some B, some p, some m, some d]) ?_
  simp only [D_require_brink_word, rbw_start]
  have nn := v_is_number S m hm
  rw [hm2] at nn
  exact q_expr (rb1 h S) (q_expr (x_f2 (rb2 h ht hp S) rfl (v_require_yes S "place")) (q_expr (x_f2 rfl rfl (v_require_number_yes m "many" S nn)) (q_expr (x_f1 rfl (v_require_die_yes S d hd hd2)) rfl)))
theorem rbw_die (h : BW B n) (ht : told p = true) (hp : (numb p && decide (ival p < n)) = true) (hm : told m = true) (hm2 : numb m = true) (hd : okQ d) (hd2 : dieB d = false) (S : Store) : O_require_brink_word [B, p, m, d] S = nu "die" S := by
  refine nu_exc (ρ := [some B, some p, some m, some d]) ?_
  simp only [D_require_brink_word, rbw_start]
  have nn := v_is_number S m hm
  rw [hm2] at nn
  exact q_expr (rb1 h S) (q_expr (x_f2 (rb2 h ht hp S) rfl (v_require_yes S "place")) (q_expr (x_f2 rfl rfl (v_require_number_yes m "many" S nn)) (q_exc (x_f1 rfl (v_require_die_no S d hd hd2)))))
theorem rbw_many (h : BW B n) (ht : told p = true) (hp : (numb p && decide (ival p < n)) = true) (hm : told m = true) (hm2 : numb m = false) (S : Store) : O_require_brink_word [B, p, m, d] S = nu "many" S := by
  refine nu_exc (ρ := [some B, some p, some m, some d]) ?_
  simp only [D_require_brink_word, rbw_start]
  have nn := v_is_number S m hm
  rw [hm2] at nn
  exact q_expr (rb1 h S) (q_expr (x_f2 (rb2 h ht hp S) rfl (v_require_yes S "place")) (q_exc (x_f2 rfl rfl (v_require_number_no m "many" S nn))))
theorem rbw_place (h : BW B n) (ht : told p = true) (hp : (numb p && decide (ival p < n)) = false) (S : Store) : O_require_brink_word [B, p, m, d] S = nu "place" S := by
  refine nu_exc (ρ := [some B, some p, some m, some d]) ?_
  simp only [D_require_brink_word, rbw_start]
  exact q_expr (rb1 h S) (q_exc (x_f2 (rb2 h ht hp S) rfl (v_require_no S "place")))
/-- marks that are no brinks, or none at all -/
theorem rbw_brinks (hb : (∀ S, O_are_brinks [B] S = some (.ok (.bl false) S)) ∨ B = .tup []) (S : Store) : O_require_brink_word [B, p, m, d] S = nu "brinks" S := by
  refine nu_exc (ρ := [some B, some p, some m, some d]) ?_
  simp only [D_require_brink_word, rbw_start]
  rcases hb with hb | rfl
  · exact q_exc (x_f2 (x_andF (x_f1 rfl (hb S))) rfl (v_require_no S "brinks"))
  · have a := v_are_brinks S (.tup []) rfl fun xs e => by cases e; exact ⟨by decide, fun x hx => nomatch hx⟩
    exact q_exc (x_f2 (x_andT (x_f1 rfl a) (x_bin (x_c1 rfl rfl) rfl rfl)) rfl (v_require_no S "brinks"))
/-- what is refused of the marks is refused of the words -/
theorem go_no {y : Str} (h : ∀ S, O_require_brink_word [B, p, m, d] S = nu y S) (S : Store) : O_go_word [B, p, m, d] S = nu y S := by
  refine nu_exc (ρ := [some B, some p, some m, some d]) ?_
  simp only [D_go_word, rbw_start]
  exact q_exc (x_f4 rfl rfl rfl rfl (h S))
theorem stay_no {y : Str} (h : ∀ S, O_require_brink_word [B, p, m, d] S = nu y S) (S : Store) : O_stay_word [B, p, m, d] S = nu y S := by
  refine nu_exc (ρ := [some B, some p, some m, some d]) ?_
  simp only [D_stay_word, rbw_start]
  exact q_exc (x_f4 rfl rfl rfl rfl (h S))
end
/-! ### good marks -/
def bl_ (n : Nat) (b : Nat → Option (Nat × Int × Int)) : List D := (List.range n).map fun i => bD (b i)
theorem bD_bon {b : Option (Nat × Int × Int)} (h : GoodB b) : okK (bD b) ∧ bonB (bD b) = true := by
  match b, h with
  | none, _ => exact ⟨⟨rfl, fun x y e => by cases e⟩, rfl⟩
  | some (k, p, q), h =>
    have dd := h k p q rfl
    have ok := dd.ok
    have di := dd.die
    refine ⟨⟨rfl, fun x y e => ?_⟩, ?_⟩
    · simp only [bD, D.tup.injEq, List.cons.injEq, and_true] at e
      obtain ⟨_, rfl⟩ := e
      exact ok.2
    · show (PD.isNon _ || brinkB (.tup [.int (k : Nat), pr p q])) = true
      have : brinkB (.tup [.int (k : Nat), pr p q]) = (numb (.int (k : Nat)) && (amount (pr p q) && lessOne (pr p q))) := rfl
      rw [this, show (amount (pr p q) && lessOne (pr p q)) = true from di, show numb (.int (k : Nat)) = true by simp [numb]]
      rfl
section
variable {n : Nat} {b : Nat → Option (Nat × Int × Int)}
theorem bl_ok (hn : n ≤ 1000) (h : ∀ i < n, GoodB (b i)) : ∀ xs, D.tup (bl_ n b) = .tup xs → xs.length ≤ 1000 ∧ ∀ x ∈ xs, okK x := fun xs e => by
  cases e
  refine ⟨by simp [bl_]; exact hn, fun x hx => ?_⟩
  obtain ⟨i, hi, rfl⟩ := List.mem_map.mp hx
  exact (bD_bon (h i (List.mem_range.mp hi))).1
theorem bl_all (h : ∀ i < n, GoodB (b i)) : (bl_ n b).all bonB = true := List.all_eq_true.mpr fun x hx => by
  obtain ⟨i, hi, rfl⟩ := List.mem_map.mp hx
  exact (bD_bon (h i (List.mem_range.mp hi))).2
theorem bl_BW (n1 : 1 ≤ n) (hn : n ≤ 1000) (h : ∀ i < n, GoodB (b i)) : BW (.tup (bl_ n b)) n where
  ar := fun S => by
    have := v_are_brinks S (.tup (bl_ n b)) rfl (bl_ok hn h)
    rwa [show brinksB (.tup (bl_ n b)) = true from bl_all h] at this
  ln := fun S => by rw [e_lenT]; simp [bl_]
  n1 := n1
theorem bl_get {i : Nat} (hi : i < n) : (bl_ n b)[i]? = some (bD (b i)) := by
  unfold bl_
  rw [List.getElem?_map, List.getElem?_range hi]
  rfl
theorem below_ok {i : Nat} (hi : i < n) : (numb (.int (i : Nat)) && decide (ival (.int (i : Nat)) < (n : Int))) = true := by
  simp [numb, ival, hi]
theorem v_go_word (n1 : 1 ≤ n) (hn : n ≤ 1000) (h : ∀ i < n, GoodB (b i)) {i : Nat} (hi : i < n) (t : Nat) {x y : Int} (d : Die x y) (S : Store) : O_go_word [.tup (bl_ n b), .int (i : Nat), .int (t : Nat), pr x y] S = some (.ok (.str (if early (b i) t x y then "go" else "stay")) S) := by
  refine fn_rtS ?_ rfl
  simp only [D_go_word, rbw_start]
  have r := rbw_yes (bl_BW n1 hn h) (p := .int (i : Nat)) (m := .int (t : Nat)) rfl (below_ok hi) rfl (by simp [numb]) d.ok d.die S
  have e := v_is_early (h i hi) d t S
  have t1 := x_tru (x_f3 (ρ := [some (.tup (bl_ n b)), some (.int (i : Nat)), some (.int (t : Nat)), some (pr x y)]) (f1 := dBin oIx (dVar 0) (dVar 1)) (f2 := dVar 2) (f3 := dVar 3) (x_bin rfl rfl (ixTup (bl_get hi) S)) rfl rfl e) rfl
  refine q_expr (x_f4 (f1 := dVar 0) (f2 := dVar 1) (f3 := dVar 2) (f4 := dVar 3) rfl rfl rfl rfl r) (q_ret ?_)
  cases he : early (b i) t x y
  · rw [he] at t1
    exact x_ifF t1 rfl
  · rw [he] at t1
    exact x_ifT t1 rfl
theorem v_stay_word (n1 : 1 ≤ n) (hn : n ≤ 1000) (h : ∀ i < n, GoodB (b i)) {i : Nat} (hi : i < n) (t : Nat) {x y : Int} (d : Die x y) (S : Store) : O_stay_word [.tup (bl_ n b), .int (i : Nat), .int (t : Nat), pr x y] S = some (.ok (.str (if early (b i) t x y then "stay" else "go")) S) := by
  refine fn_rtS ?_ rfl
  simp only [D_stay_word, rbw_start]
  have r := rbw_yes (bl_BW n1 hn h) (p := .int (i : Nat)) (m := .int (t : Nat)) rfl (below_ok hi) rfl (by simp [numb]) d.ok d.die S
  have e := v_is_early (h i hi) d t S
  have t1 := x_tru (x_f3 (ρ := [some (.tup (bl_ n b)), some (.int (i : Nat)), some (.int (t : Nat)), some (pr x y)]) (f1 := dBin oIx (dVar 0) (dVar 1)) (f2 := dVar 2) (f3 := dVar 3) (x_bin rfl rfl (ixTup (bl_get hi) S)) rfl rfl e) rfl
  refine q_expr (x_f4 (f1 := dVar 0) (f2 := dVar 1) (f3 := dVar 2) (f4 := dVar 3) rfl rfl rfl rfl r) (q_ret ?_)
  cases he : early (b i) t x y
  · rw [he] at t1
    exact x_ifF t1 rfl
  · rw [he] at t1
    exact x_ifT t1 rfl
end
end My
set_option Elab.async false
set_option linter.all false
set_option maxRecDepth 100000
set_option maxHeartbeats 1000000
set_option exponentiation.threshold 20000
namespace My
open PySem PySem.Spec PyProof.Rows L2 PD
/-! ### webs, coins, dice in a row -/
abbrev wb (R : List (List Int)) (m : Int) : D := .tup [.tup (R.map fun r => .tup (r.map .int)), .int m]
structure WK (n : Nat) (R : List (List Int)) (m : Int) : Prop where
  n1 : 1 ≤ n
  n8 : n ≤ 8
  len : R.length = n
  row : ∀ i < n, (R.getD i []).length = n
  nn : ∀ i < n, ∀ j < n, 0 ≤ at2 R i j ∧ at2 R i j ≤ 60
  sum : ∀ i < n, (sI n fun j => at2 R i j) = m
  m1 : 1 ≤ m
  m60 : m ≤ 60
section
variable {n : Nat} {R : List (List Int)} {m : Int} {S : Store}
theorem wb_row (w : WK n R m) {i : Nat} (hi : i < n) : (R.map fun r => D.tup (r.map .int))[i]? = some (.tup ((R.getD i []).map .int)) := by
  have := w.len
  rw [List.getElem?_map, List.getElem?_eq_getElem (by omega)]
  simp [List.getD, List.getElem?_eq_getElem (show i < R.length by omega)]
theorem v_size_of (w : WK n R m) (S : Store) : O_size_of [wb R m] S = some (.ok (.int (n : Nat)) S) := by
  refine fn_rtS ?_ rfl
  simp only [D_size_of]
  rw [show startD ["web"] [wb R m] = [some (wb R m)] from rfl]
  refine q_ret (x_c1 (x_bin rfl rfl (e_ix0 _ _ S)) ?_)
  rw [e_lenT, List.length_map, w.len]
theorem v_require_place_yes (w : WK n R m) {p : D} (ht : told p = true) (hp : (numb p && decide (ival p < n)) = true) (x : Str) (S : Store) : O_require_place [wb R m, p, .str x] S = some (.ok .non S) := by
  refine fn_nx (ρ := [some (wb R m), some p, some (.str x)]) ?_
  simp only [D_require_place]
  have b := v_is_below S n p ht
  rw [hp] at b
  exact q_expr (x_f2 (x_f2 (x_f1 rfl (v_size_of w S)) rfl b) rfl (v_require_yes S x)) rfl
theorem v_require_place_no (w : WK n R m) {p : D} (ht : told p = true) (hp : (numb p && decide (ival p < n)) = false) (x : Str) (S : Store) : O_require_place [wb R m, p, .str x] S = nu x S := by
  refine nu_exc (ρ := [some (wb R m), some p, some (.str x)]) ?_
  simp only [D_require_place]
  have b := v_is_below S n p ht
  rw [hp] at b
  exact q_exc (x_f2 (x_f2 (x_f1 rfl (v_size_of w S)) rfl b) rfl (v_require_no S x))
/-! coins -/
structure Coin (p q : Int) : Prop where
  qq : quot (pr p q) = true
  p0 : 0 ≤ p
  le : p ≤ q
  sp : small p
  sq : small q
theorem Coin.ok {x y : Int} (h : Coin x y) : okQ (pr x y) := ⟨rfl, by
  have a := h.sp
  have b := h.sq
  unfold small at a b
  simp [smallQ, pr, a, b]⟩
theorem Coin.coin {x y : Int} (h : Coin x y) : coinB (pr x y) = true := by
  have := h.p0
  have := h.le
  simp only [coinB, amount, upOne, pr, Bool.and_eq_true, decide_eq_true_eq, Bool.not_eq_true', decide_eq_false_iff_not]
  exact ⟨⟨h.qq, h.p0⟩, by omega⟩
def cn (n : Nat) (c : Nat → Int × Int) : List D := (List.range n).map fun i => pr (c i).1 (c i).2
structure CW (B : D) (n : Nat) : Prop where
  ar : ∀ S, O_are_coins [B] S = some (.ok (.bl true) S)
  ln : ∀ S, oLen [B] S = some (.ok (.int (n : Nat)) S)
  n1 : 1 ≤ n
variable {c : Nat → Int × Int}
theorem cn_ok (hn : n ≤ 1000) (h : ∀ i < n, Coin (c i).1 (c i).2) : ∀ xs, D.tup (cn n c) = .tup xs → xs.length ≤ 1000 ∧ ∀ x ∈ xs, okQ x := fun xs e => by
  cases e
  refine ⟨by simp [cn]; exact hn, fun x hx => ?_⟩
  obtain ⟨i, hi, rfl⟩ := List.mem_map.mp hx
  exact (h i (List.mem_range.mp hi)).ok
theorem cn_all (h : ∀ i < n, Coin (c i).1 (c i).2) : (cn n c).all coinB = true := List.all_eq_true.mpr fun x hx => by
  obtain ⟨i, hi, rfl⟩ := List.mem_map.mp hx
  exact (h i (List.mem_range.mp hi)).coin
theorem cn_CW (n1 : 1 ≤ n) (hn : n ≤ 1000) (h : ∀ i < n, Coin (c i).1 (c i).2) : CW (.tup (cn n c)) n where
  ar := fun S => by
    have := v_are_coins S (.tup (cn n c)) rfl (cn_ok hn h)
    rwa [show coinsB (.tup (cn n c)) = true from cn_all h] at this
  ln := fun S => by rw [e_lenT]; simp [cn]
  n1 := n1
theorem cn_get {i : Nat} (hi : i < n) : (cn n c)[i]? = some (pr (c i).1 (c i).2) := by
  unfold cn
  rw [List.getElem?_map, List.getElem?_range hi]
  rfl
variable {B p d : D}
theorem cw_start (B p d : D) : startD ["coins", "place", "die"] [B, p, d] = [some B, some p, some d] := rfl
theorem cw1 (h : CW B n) (S : Store) : dFn 2 O_require (dCons (dAnd (dFn 1 O_are_coins (dCons (dVar 0) (dNil))) (dBin oGt (dCall oLen (dCons (dVar 0) (dNil))) (dC (.int 0)))) (dCons (dC (.str "coins")) (dNil))) [some B, some p, some d] S = some (.ok .non S) := by
  have n1 := h.n1
  have g : dBin oGt (dCall oLen (dCons (dVar 0) (dNil))) (dC (.int 0)) [some B, some p, some d] S = some (.ok (.bl true) S) := by
    refine (x_bin (x_c1 rfl (h.ln S)) rfl (o_gtI _ _ S)).trans ?_
    rw [decide_eq_true (by omega)]
  exact x_f2 (x_andT (x_f1 rfl (h.ar S)) g) rfl (v_require_yes S "coins")
theorem cw2 (h : CW B n) (ht : told p = true) {k : Bool} (hk : (numb p && decide (ival p < n)) = k) (S : Store) : dFn 2 O_is_below (dCons (dCall oLen (dCons (dVar 0) (dNil))) (dCons (dVar 1) (dNil))) [some B, some p, some d] S = some (.ok (.bl k) S) := by
  rw [← hk]
  exact x_f2 (x_c1 rfl (h.ln S)) rfl (v_is_below S n p ht)
theorem coin_coins (hb : (∀ S, O_are_coins [B] S = some (.ok (.bl false) S)) ∨ B = .tup []) (S : Store) : O_coin_word [B, p, d] S = nu "coins" S := by
  refine nu_exc (ρ := [some B, some p, some d]) ?_
  simp only [D_coin_word, cw_start]
  rcases hb with hb | rfl
  · exact q_exc (x_f2 (x_andF (x_f1 rfl (hb S))) rfl (v_require_no S "coins"))
  · have a := v_are_coins S (.tup []) rfl fun xs e => by cases e; exact ⟨by decide, fun x hx => nomatch hx⟩
    exact q_exc (x_f2 (x_andT (x_f1 rfl a) (x_bin (x_c1 rfl rfl) rfl rfl)) rfl (v_require_no S "coins"))
theorem coin_place (h : CW B n) (ht : told p = true) (hp : (numb p && decide (ival p < n)) = false) (S : Store) : O_coin_word [B, p, d] S = nu "place" S := by
  refine nu_exc (ρ := [some B, some p, some d]) ?_
  simp only [D_coin_word, cw_start]
  exact q_expr (cw1 h S) (q_exc (x_f2 (cw2 h ht hp S) rfl (v_require_no S "place")))
theorem coin_die (h : CW B n) (ht : told p = true) (hp : (numb p && decide (ival p < n)) = true) (hd : okQ d) (hd2 : dieB d = false) (S : Store) : O_coin_word [B, p, d] S = nu "die" S := by
  refine nu_exc (ρ := [some B, some p, some d]) ?_
  simp only [D_coin_word, cw_start]
  exact q_expr (cw1 h S) (q_expr (x_f2 (cw2 h ht hp S) rfl (v_require_yes S "place")) (q_exc (x_f1 rfl (v_require_die_no S d hd hd2))))
theorem v_coin_word (n1 : 1 ≤ n) (hn : n ≤ 1000) (h : ∀ i < n, Coin (c i).1 (c i).2) {i : Nat} (hi : i < n) {x y : Int} (d : Die x y) (S : Store) : O_coin_word [.tup (cn n c), .int (i : Nat), pr x y] S = some (.ok (.str (if x * (c i).2 < (c i).1 * y then "stay" else "go")) S) := by
  refine fn_rtS ?_ rfl
  simp only [D_coin_word, cw_start]
  have C := cn_CW n1 hn h
  have ci := h i hi
  have l := v_is_less S x y (c i).1 (c i).2 d.q ci.qq d.sx d.sy ci.sp ci.sq
  have t1 := x_tru (x_f2 (ρ := [some (.tup (cn n c)), some (.int (i : Nat)), some (pr x y)]) (f1 := dVar 2) (f2 := dBin oIx (dVar 0) (dVar 1)) rfl (x_bin rfl rfl (ixTup (cn_get hi) S)) l) rfl
  refine q_expr (cw1 C S) (q_expr (x_f2 (cw2 C (p := .int (i : Nat)) rfl (below_ok hi) S) rfl (v_require_yes S "place")) (q_expr (x_f1 (f1 := dVar 2) rfl (v_require_die_yes S _ d.ok d.die)) (q_ret ?_)))
  by_cases he : x * (c i).2 < (c i).1 * y
  · rw [decide_eq_true he] at t1
    rw [if_pos he]
    exact x_ifT t1 rfl
  · rw [decide_eq_false he] at t1
    rw [if_neg he]
    exact x_ifF t1 rfl
/-! arrow_by refuses -/
theorem arrow_place (w : WK n R m) (ht : told p = true) (hp : (numb p && decide (ival p < n)) = false) (S : Store) : O_arrow_by [wb R m, p, d] S = nu "place" S := by
  refine nu_exc (ρ := [some (wb R m), some p, some d]) ?_
  simp only [D_arrow_by]
  exact q_exc (x_f3 rfl rfl rfl (v_require_place_no w ht hp "place" S))
theorem arrow_die (w : WK n R m) (ht : told p = true) (hp : (numb p && decide (ival p < n)) = true) (hd : okQ d) (hd2 : dieB d = false) (S : Store) : O_arrow_by [wb R m, p, d] S = nu "die" S := by
  refine nu_exc (ρ := [some (wb R m), some p, some d]) ?_
  simp only [D_arrow_by]
  exact q_expr (x_f3 rfl rfl rfl (v_require_place_yes w ht hp "place" S)) (q_exc (x_f1 rfl (v_require_die_no S d hd hd2)))
/-! dice in a row -/
def pairB : D → Bool
  | .tup [x, y] => dieB x && dieB y
  | _ => false
def diceB : D → Bool
  | .tup xs => xs.all pairB
  | _ => false
def okP (d : D) : Prop := told d = true ∧ ∀ x y, d = .tup [x, y] → okQ x ∧ okQ y
theorem v_are_dice (S : Store) (d : D) (ht : told d = true) (h : ∀ xs, d = .tup xs → xs.length ≤ 1000 ∧ ∀ x ∈ xs, okP x) : O_are_dice [d] S = some (.ok (.bl (diceB d)) S) := by
  refine fn_rtS ?_ rfl
  have st : startD ["thing", "pair"] [d] = [some d, none] := rfl
  simp only [D_are_dice]
  rw [st]
  cases d with
  | tup xs =>
    obtain ⟨hl, hx⟩ := h xs rfl
    have l := lc_map (own := [1]) (t := .one 1) (elt := dAnd (dFn 1 O_is_pair (dCons (dVar 1) (dNil))) (dAnd (dFn 1 O_is_die (dCons (dBin oIx (dVar 1) (dC (.int 0))) (dNil))) (dFn 1 O_is_die (dCons (dBin oIx (dVar 1) (dC (.int 1))) (dNil))))) (f := dItems (dVar 0)) (ρ := [some (.tup xs), none]) (S := S) (items := xs) (fun x => .bl (pairB x)) (fun x => [some (.tup xs), some x]) rfl
      (fun _ _ => rfl) (fun x hx' T => by
        obtain ⟨h1, h2⟩ := hx x hx'
        have ip := v_is_pair T x h1
        by_cases hp : isPair x = true
        · match x, hp with
          | .tup [a, b], _ =>
            obtain ⟨oa, ob⟩ := h2 a b rfl
            rw [show isPair (.tup [a, b]) = true from rfl] at ip
            show _ = some (Res.ok (.bl (dieB a && dieB b)) T)
            exact x_andT (x_f1 rfl ip) (x_and (x_f1 (x_bin rfl rfl (e_ix0 _ _ T)) (v_is_die T a oa)) fun _ => x_f1 (x_bin rfl rfl (e_ix1 _ _ _ T)) (v_is_die T b ob))
          | .tup [], hp => simp [isPair] at hp
          | .tup [_], hp => simp [isPair] at hp
          | .tup (_ :: _ :: _ :: _), hp => simp [isPair] at hp; omega
        · have hf : isPair x = false := Bool.eq_false_iff.mpr hp
          rw [hf] at ip
          have e : pairB x = false := by
            unfold pairB
            split
            · exact absurd rfl hp
            · rfl
          rw [e]
          exact x_andF (x_f1 rfl ip)) (by omega) (by simp [closeds_all, closed])
    exact q_ret (x_andT rfl (x_c1 l (e_all _ _ _)))
  | non => rfl
  | bl _ => rfl
  | int _ => rfl
  | str _ => rfl
  | lst _ => rfl
  | scr _ => rfl
  | ref _ => rfl
  | rng _ _ => simp [told, tyName] at ht
  | err _ _ _ => simp [told, tyName] at ht
  | cau _ _ _ _ _ => simp [told, tyName] at ht
  | fn _ => simp [told, tyName] at ht
end
end My
set_option Elab.async false
set_option linter.all false
set_option maxRecDepth 100000
set_option maxHeartbeats 1000000
set_option exponentiation.threshold 20000
namespace My
open PySem PySem.Spec PyProof.Rows L2 PD
/-! ### the next place -/
theorem filter_first {p : Nat → Bool} {n j : Nat} (hj : j < n) (hp : p j = true) (hl : ∀ k < j, p k = false) : ∃ rest, (List.range n).filter p = j :: rest := by
  obtain ⟨k, rfl⟩ : ∃ k, n = j + (k + 1) := ⟨n - j - 1, by omega⟩
  rw [List.range_eq_range', ← List.range'_append_1, List.filter_append, Nat.zero_add, List.range'_succ, List.filter_cons_of_pos hp]
  have : (List.range' 0 j).filter p = [] := List.filter_eq_nil_iff.mpr fun x hx => by
    have := List.mem_range'_1.mp hx
    rw [hl x (by omega)]
    decide
  rw [this]
  exact ⟨_, rfl⟩
theorem least {P : Nat → Prop} [DecidablePred P] : ∀ {n : Nat}, P n → ∃ j, j ≤ n ∧ P j ∧ ∀ k < j, ¬ P k := fun {n} => by
  induction n with
  | zero => exact fun h => ⟨0, Nat.le_refl _, h, fun k hk => by omega⟩
  | succ n ih =>
    intro h
    by_cases e : ∃ k ≤ n, P k
    · obtain ⟨k, hk, hp⟩ := e
      have : ∀ m, m ≤ n → P m → ∃ j, j ≤ n ∧ P j ∧ ∀ k < j, ¬ P k := fun m => by
        induction m using Nat.strongRecOn with
        | _ m ihm =>
          intro hm hpm
          by_cases z : ∃ q < m, P q
          · obtain ⟨q, hq, hpq⟩ := z
            exact ihm q hq (by omega) hpq
          · exact ⟨m, hm, hpm, fun q hq hpq => z ⟨q, hq, hpq⟩⟩
      obtain ⟨j, h1, h2, h3⟩ := this k hk hp
      exact ⟨j, by omega, h2, h3⟩
    · exact ⟨n + 1, Nat.le_refl _, h, fun k hk hp => e ⟨k, by omega, hp⟩⟩
/-- the chances of the places up to j -/
def cum (R : List (List Int)) (i j : Nat) : Int := sI j fun k => at2 R i k
theorem sum_take : ∀ (xs : List Int) (k : Nat), k ≤ xs.length → (xs.take k).sum = sI k fun i => gt xs i
  | xs, 0, _ => by simp [sI]
  | xs, k + 1, h => by
    rw [List.take_succ, List.sum_append, sum_take xs k (by omega), sI_succ, List.getElem?_eq_getElem (by omega)]
    simp [gt, List.getD, List.getElem?_eq_getElem (show k < xs.length by omega)]
theorem intsD_map : ∀ xs : List Int, intsD (xs.map D.int) = some xs
  | [] => rfl
  | x :: xs => by simp [intsD, intsD_map xs]
theorem cut_takeT (xs : List D) (k : Nat) : PD.cutD xs none (some (k : Int)) = xs.take k := by
  unfold PD.cutD
  rw [HT.sIx_none, HT.sIx_nat, List.drop_zero, Nat.sub_zero]
  by_cases h : k ≤ xs.length
  · rw [Nat.min_eq_left h]
  · rw [Nat.min_eq_right (by omega), List.take_of_length_le (Nat.le_refl _), List.take_of_length_le (by omega)]
section
variable {n : Nat} {R : List (List Int)} {m : Int} {S : Store}
/-- where the second die leads -/
structure Leads (n : Nat) (R : List (List Int)) (m : Int) (i : Nat) (x y : Int) (j : Nat) : Prop where
  lt : j < n
  up : x * m < cum R i (j + 1) * y
  lo : ∀ k < j, ¬ x * m < cum R i (k + 1) * y
theorem leads_ex (w : WK n R m) {i : Nat} (hi : i < n) {x y : Int} (d : Die x y) : ∃ j, Leads n R m i x y j := by
  have n1 := w.n1
  have s := w.sum i hi
  have : x * m < cum R i (n - 1 + 1) * y := by
    rw [show n - 1 + 1 = n by omega]
    unfold cum
    rw [s, Int.mul_comm m y]
    exact Int.mul_lt_mul_of_pos_right d.lt (by have := w.m1; omega)
  obtain ⟨j, h1, h2, h3⟩ := least (P := fun j => x * m < cum R i (j + 1) * y) this
  exact ⟨j, by omega, h2, h3⟩
theorem cum_small (w : WK n R m) {i : Nat} (hi : i < n) {j : Nat} (hj : j ≤ n) : 0 ≤ cum R i j ∧ cum R i j ≤ 60 * j := by
  induction j with
  | zero => unfold cum; simp [sI]
  | succ j ih =>
    have := ih (by omega)
    have := w.nn i hi j (by omega)
    unfold cum at *
    rw [sI_succ]
    omega
theorem v_next_by (w : WK n R m) {i : Nat} (hi : i < n) {x y : Int} (d : Die x y) {j : Nat} (h : Leads n R m i x y j) (S : Store) : O_next_by [wb R m, .int (i : Nat), pr x y] S = some (.ok (.int (j : Nat)) S) := by
  refine fn_rtS ?_ rfl
  have n8 := w.n8
  have rl := w.row i hi
  simp only [D_next_by]
  rw [show startD ["web", "place", "die", "row", "bottom", "reached", "j"] [wb R m, .int (i : Nat), pr x y] = [some (wb R m), some (.int (i : Nat)), some (pr x y), none, none, none, none] from rfl]
  obtain ⟨rest, hf⟩ := filter_first (p := fun k => decide (x * m < cum R i (k + 1) * y)) h.lt (decide_eq_true h.up) fun k hk => decide_eq_false (h.lo k hk)
  have sm : small m := by have := w.m1; have := w.m60; unfold small; exact Nat.lt_of_le_of_lt (show m.natAbs ≤ 60 by omega) (Nat.lt_of_lt_of_le (by decide : 60 < 2 ^ 6) (Nat.pow_le_pow_right (by decide) (by decide)))
  have lc : dLc [6] (dRange1 (dCall oLen (dCons (dVar 3) (dNil)))) (.one 6) (dBin oLt (dBin oMul (dBin oIx (dVar 2) (dC (.int 0))) (dVar 4)) (dBin oMul (dCall oSum (dCons (dCut (dVar 3) none (some (dBin oPlus (dVar 6) (dC (.int 1))))) (dNil))) (dBin oIx (dVar 2) (dC (.int 1))))) (dVar 6) [some (wb R m), some (.int (i : Nat)), some (pr x y), some (.tup ((R.getD i []).map .int)), some (.int m), none, none] S = some (.ok (.lst (((List.range n).filter fun k => decide (x * m < cum R i (k + 1) * y)).map fun k => D.int (k : Nat))) S) := by
    refine lc_idxF (own := [6]) (t := .one 6) (List.range n) (fun k => D.int (k : Nat)) (fun k => D.int (k : Nat)) (fun k => decide (x * m < cum R i (k + 1) * y)) (fun k => [some (wb R m), some (.int (i : Nat)), some (pr x y), some (.tup ((R.getD i []).map .int)), some (.int m), none, some (.int (k : Nat))]) (by rw [range1_of (n := n) (x_c1 rfl (by rw [e_lenT, List.length_map, rl])) (by omega), rgD_map]) (fun _ _ => rfl) (fun k hk V => ?_) (fun _ _ _ _ => rfl) (by rw [List.length_range]; omega) (closeds_ints _ _)
    have hk := List.mem_range.mp hk
    have ct : oCut (.tup ((R.getD i []).map .int)) none (some ((k + 1 : Nat) : Int)) V = some (.ok (.tup (((R.getD i []).take (k + 1)).map .int)) V) := by
      simp only [oCut, cut_takeT, List.map_take]
    have sm1 : oSum [.tup (((R.getD i []).take (k + 1)).map .int)] V = some (.ok (.int (cum R i (k + 1))) V) := by
      show ((asSeq V (.tup (((R.getD i []).take (k + 1)).map .int))).bind fun xs => (intsD xs).map fun ns => Res.ok (.int ns.sum) V) = _
      simp only [asSeq, Option.bind_some, intsD_map, Option.map_some]
      rw [sum_take _ _ (by omega)]
      rfl
    have cs := cum_small w hi (show k + 1 ≤ n by omega)
    have sc : small (cum R i (k + 1)) := by unfold small; exact Nat.lt_of_le_of_lt (show (cum R i (k + 1)).natAbs ≤ 480 by omega) (Nat.lt_of_lt_of_le (by decide : 480 < 2 ^ 9) (Nat.pow_le_pow_right (by decide) (by decide)))
    have kk : dBin oPlus (dVar 6) (dC (.int 1)) [some (wb R m), some (.int (i : Nat)), some (pr x y), some (.tup ((R.getD i []).map .int)), some (.int m), none, some (.int (k : Nat))] V = some (.ok (.int ((k + 1 : Nat) : Int)) V) := x_bin rfl rfl rfl
    exact x_bin (x_bin (x_bin rfl rfl (e_ix0 _ _ V)) rfl (e_mulI d.sx sm V)) (x_bin (x_c1 ((x_cut (i := none) (j := some ((k + 1 : Nat) : Int)) rfl trivial kk).trans ct) sm1) (x_bin rfl rfl (e_ix1 _ _ _ V)) (e_mulI sc d.sy V)) (o_ltI _ _ V)
  refine q_nx (ρ1 := [some (wb R m), some (.int (i : Nat)), some (pr x y), some (.tup ((R.getD i []).map .int)), some (.int m), none, none]) (S1 := S) ?_ ?_
  · have a : dTup (dCons (dBin oIx (dBin oIx (dVar 0) (dC (.int 0))) (dVar 1)) (dCons (dBin oIx (dVar 0) (dC (.int 1))) (dNil))) [some (wb R m), some (.int (i : Nat)), some (pr x y), none, none, none, none] S = some (.ok (.tup [.tup ((R.getD i []).map .int), .int m]) S) := x_tup (y_cons (x_bin (x_bin rfl rfl (e_ix0 _ _ S)) rfl (ixTup (wb_row w hi) S)) (y_cons (x_bin rfl rfl (e_ix1 _ _ _ S)) y_nil)) rfl
    rw [e_asg, a, bndS_ok]
    rfl
  · refine q_set lc (q_ret (x_bin rfl rfl ?_))
    rw [hf]
    exact ixLst (i := 0) rfl S
end
end My
set_option Elab.async false
set_option linter.all false
set_option maxRecDepth 100000
set_option maxHeartbeats 1000000
set_option exponentiation.threshold 20000
namespace My
open PySem PySem.Spec PyProof.Rows L2 PD
/-! ### a walker led by dice -/
/-- how a manner with its marks leads: stay p t x y says that the word is stay -/
structure Man (n : Nat) (s : Str) (M : D) (stay : Nat → Nat → Int → Int → Bool) : Prop where
  so : PyData.strOk s = true
  inn : ∀ S, oIn (.str s) (.tup [.str "go", .str "stay", .str "coin"]) S = some (.ok (.bl true) S)
  mar : ∀ S (ρ : EnvD), ρ[1]? = some (some (.str s)) → ρ[2]? = some (some M) → ρ[5]? = some (some (.int (n : Nat))) → dIf (dBin oEq (dVar 1) (dC (.str "coin"))) (dFn 2 O_is_coins (dCons (dVar 5) (dCons (dVar 2) (dNil)))) (dFn 2 O_is_brinks (dCons (dVar 5) (dCons (dVar 2) (dNil)))) ρ S = some (.ok (.bl true) S)
  wd : ∀ p < n, ∀ (t : Nat) (x y : Int), Die x y → ∀ S, O_word_by [.str s, M, .int (p : Nat), .int (t : Nat), pr x y] S = some (.ok (.str (if stay p t x y then ("stay" : Str) else ("go" : Str))) S)
abbrev Di := Int × Int × Int × Int
structure DiOk (d : Di) : Prop where
  a : Die d.1 d.2.1
  b : Die d.2.2.1 d.2.2.2
def diD (d : Di) : D := .tup [pr d.1 d.2.1, pr d.2.2.1 d.2.2.2]
/-- the place that a die leads to -/
def toP (n : Nat) (R : List (List Int)) (m : Int) (i : Nat) (x y : Int) : Nat := ((List.range n).filter fun k => decide (x * m < cum R i (k + 1) * y)).headD 0
section
variable {n : Nat} {R : List (List Int)} {m : Int} {S : Store}
theorem leads_toP (w : WK n R m) {i : Nat} (hi : i < n) {x y : Int} (d : Die x y) : Leads n R m i x y (toP n R m i x y) := by
  obtain ⟨j, h⟩ := leads_ex w hi d
  obtain ⟨rest, e⟩ := filter_first (p := fun k => decide (x * m < cum R i (k + 1) * y)) h.lt (decide_eq_true h.up) fun k hk => decide_eq_false (h.lo k hk)
  unfold toP
  rw [e]
  exact h
/-- the way, and whether it ends in a stay -/
def walk (n : Nat) (R : List (List Int)) (m : Int) (stay : Nat → Nat → Int → Int → Bool) : Nat → Nat → List Di → List Nat × Bool
  | _, p, [] => ([p], false)
  | t, p, d :: ds => if stay p t d.1 d.2.1 then ([p], true) else (p :: (walk n R m stay (t + 1) (toP n R m p d.2.2.1 d.2.2.2) ds).1, (walk n R m stay (t + 1) (toP n R m p d.2.2.1 d.2.2.2) ds).2)
def wayD (ws : List Nat) : List D := ws.map fun (k : Nat) => D.int (k : Nat)
abbrev ldE (n : Nat) (R : List (List Int)) (m : Int) (s : Str) (M p dc : D) (N : Nat) (r7 r8 r9 : Option D) : EnvD := [some (wb R m), some (.str s), some M, some p, some dc, some (.int (n : Nat)), some (.ref N), r7, r8, r9]
noncomputable abbrev ledB : SDen := (sSeq (sIf (dBin oEq (dFn 5 O_word_by (dCons (dVar 1) (dCons (dVar 2) (dCons (dBin oIx (dVar 6) (dUn oNeg (dC (.int 1)))) (dCons (dVar 7) (dCons (dVar 8) (dNil))))))) (dC (.str "stay"))) (sSeq (sRet (dTup (dCons (dCall oTuple1 (dCons (dVar 6) (dNil))) (dCons (dC (.bl true)) (dNil))))) (sNil)) (sNil)) (sSeq (sExpr (dApp (dVar 6) (dFn 3 O_next_by (dCons (dVar 0) (dCons (dBin oIx (dVar 6) (dUn oNeg (dC (.int 1)))) (dCons (dVar 9) (dNil))))))) (sNil)))
theorem strStay : PyData.strOk "stay" = true := by decide +kernel
theorem way_last (S : Store) (pre : List Nat) (p : Nat) : oIx (.ref S.length) (.int (-1)) (S ++ [wayD (pre ++ [p])]) = some (.ok (.int (p : Nat)) (S ++ [wayD (pre ++ [p])])) :=
  ixRefLast (get_last S _) (k := pre.length) (by simp [wayD]) (by simp [wayD])
theorem led_loop (w : WK n R m) {s : Str} {M : D} {stay : Nat → Nat → Int → Int → Bool} (hm : Man n s M stay) (pD dc : D) (all : List D) : ∀ (ds : List Di) (t p : Nat) (pre : List Nat) (r7 r8 r9 : Option D), p < n → (∀ d ∈ ds, DiOk d) → pre.length + ds.length ≤ 1000 →
    ((walk n R m stay t p ds).2 = true ∧ forLoop none all (PD.tTup 2 (PD.tCons (tName 7) (PD.tCons (PD.tTup 2 (PD.tCons (tName 8) (PD.tCons (tName 9) (PD.tNil)))) (PD.tNil)))) ledB (enumD t (ds.map diD)) (ldE n R m s M pD dc S.length r7 r8 r9) (S ++ [wayD (pre ++ [p])]) = some (.rt (.tup [.tup (wayD (pre ++ (walk n R m stay t p ds).1)), .bl true]) (S ++ [wayD (pre ++ (walk n R m stay t p ds).1)]))) ∨
    ((walk n R m stay t p ds).2 = false ∧ ∃ q7 q8 q9, forLoop none all (PD.tTup 2 (PD.tCons (tName 7) (PD.tCons (PD.tTup 2 (PD.tCons (tName 8) (PD.tCons (tName 9) (PD.tNil)))) (PD.tNil)))) ledB (enumD t (ds.map diD)) (ldE n R m s M pD dc S.length r7 r8 r9) (S ++ [wayD (pre ++ [p])]) = some (.nx (ldE n R m s M pD dc S.length q7 q8 q9) (S ++ [wayD (pre ++ (walk n R m stay t p ds).1)])))
  | [], t, p, pre, r7, r8, r9, _, _, _ => .inr ⟨rfl, r7, r8, r9, rfl⟩
  | d :: ds, t, p, pre, r7, r8, r9, hp, hd, hl => by
    have dk := hd d List.mem_cons_self
    have wl := way_last S pre p
    have wo := hm.wd p hp t d.1 d.2.1 dk.a (S ++ [wayD (pre ++ [p])])
    have test : dBin oEq (dFn 5 O_word_by (dCons (dVar 1) (dCons (dVar 2) (dCons (dBin oIx (dVar 6) (dUn oNeg (dC (.int 1)))) (dCons (dVar 7) (dCons (dVar 8) (dNil))))))) (dC (.str "stay")) (ldE n R m s M pD dc S.length (some (.int (t : Nat))) (some (pr d.1 d.2.1)) (some (pr d.2.2.1 d.2.2.2))) (S ++ [wayD (pre ++ [p])]) = some (.ok (.bl (stay p t d.1 d.2.1)) (S ++ [wayD (pre ++ [p])])) := by
      refine x_bin (x_fn (y_cons (f := dVar 1) rfl (y_cons (f := dVar 2) rfl (y_cons (x_bin rfl rfl wl) (y_cons (f := dVar 7) rfl (y_cons (f := dVar 8) rfl y_nil))))) rfl wo) rfl ?_
      cases stay p t d.1 d.2.1
      · exact o_eqS (by decide +kernel) strStay _
      · exact o_eqS strStay strStay _
    have hw : walk n R m stay t p (d :: ds) = if stay p t d.1 d.2.1 then ([p], true) else (p :: (walk n R m stay (t + 1) (toP n R m p d.2.2.1 d.2.2.2) ds).1, (walk n R m stay (t + 1) (toP n R m p d.2.2.1 d.2.2.2) ds).2) := rfl
    cases hs : stay p t d.1 d.2.1
    · rw [hs] at test hw
      rw [hw]
      simp only [Bool.false_eq_true, if_false]
      have L := leads_toP w hp dk.b
      have nb := v_next_by w hp dk.b L (S ++ [wayD (pre ++ [p])])
      have ap := p_app (ρ := ldE n R m s M pD dc S.length (some (.int (t : Nat))) (some (pr d.1 d.2.1)) (some (pr d.2.2.1 d.2.2.2))) (fo := dVar 6) (n := S.length) rfl (x_f3 (f1 := dVar 0) (f2 := dBin oIx (dVar 6) (dUn oNeg (dC (.int 1)))) (f3 := dVar 9) rfl (x_bin rfl rfl wl) rfl nb) (get_last S _) (by simp [wayD]; simp at hl; omega)
      rw [set_last, show wayD (pre ++ [p]) ++ [D.int ((toP n R m p d.2.2.1 d.2.2.2 : Nat) : Int)] = wayD ((pre ++ [p]) ++ [toP n R m p d.2.2.1 d.2.2.2]) by simp [wayD]] at ap
      have ih := led_loop w hm pD dc all ds (t + 1) (toP n R m p d.2.2.1 d.2.2.2) (pre ++ [p]) (some (.int (t : Nat))) (some (pr d.1 d.2.1)) (some (pr d.2.2.1 d.2.2.2)) L.lt (fun z hz => hd z (List.mem_cons_of_mem _ hz)) (by simp at hl ⊢; omega)
      have body : ledB (ldE n R m s M pD dc S.length (some (.int (t : Nat))) (some (pr d.1 d.2.1)) (some (pr d.2.2.1 d.2.2.2))) (S ++ [wayD (pre ++ [p])]) = some (.nx (ldE n R m s M pD dc S.length (some (.int (t : Nat))) (some (pr d.1 d.2.1)) (some (pr d.2.2.1 d.2.2.2))) (S ++ [wayD ((pre ++ [p]) ++ [toP n R m p d.2.2.1 d.2.2.2])])) := q_ifF test (q_expr ap rfl)
      rw [show pre ++ p :: (walk n R m stay (t + 1) (toP n R m p d.2.2.1 d.2.2.2) ds).1 = (pre ++ [p]) ++ (walk n R m stay (t + 1) (toP n R m p d.2.2.1 d.2.2.2) ds).1 by simp]
      rcases ih with ⟨h1, e⟩ | ⟨h1, q7, q8, q9, e⟩
      · exact .inl ⟨h1, loopS_cons rfl body e⟩
      · exact .inr ⟨h1, q7, q8, q9, loopS_cons rfl body e⟩
    · rw [hs] at test hw
      rw [hw]
      simp only [if_true]
      refine .inl ⟨trivial, ?_⟩
      have body : ledB (ldE n R m s M pD dc S.length (some (.int (t : Nat))) (some (pr d.1 d.2.1)) (some (pr d.2.2.1 d.2.2.2))) (S ++ [wayD (pre ++ [p])]) = some (.rt (.tup [.tup (wayD (pre ++ [p])), .bl true]) (S ++ [wayD (pre ++ [p])])) := q_ifR test (q_ret (x_tup (y_cons (x_c1 rfl (by
        show ((asList _ (.ref S.length)).map fun xs => Res.ok (.tup xs) _) = _
        simp only [asList, get_last, Option.map_some])) (y_cons rfl y_nil)) rfl))
      exact loop_cons_rt rfl body
end
end My
set_option Elab.async false
set_option linter.all false
set_option maxRecDepth 100000
set_option maxHeartbeats 1000000
set_option exponentiation.threshold 20000
namespace My
open PySem PySem.Spec PyProof.Rows L2 PD
section
variable {n : Nat} {R : List (List Int)} {m : Int} {S : Store}
theorem closed_way (ws : List Nat) : closeds (wayD ws) = true := by simp [wayD, closeds_all, closed]
theorem diD_ok {d : Di} (h : DiOk d) : okP (diD d) ∧ pairB (diD d) = true := ⟨⟨rfl, fun x y e => by
  simp only [diD, D.tup.injEq, List.cons.injEq, and_true] at e
  obtain ⟨rfl, rfl⟩ := e
  exact ⟨h.a.ok, h.b.ok⟩⟩, by
  show (dieB (pr d.1 d.2.1) && dieB (pr d.2.2.1 d.2.2.2)) = true
  rw [h.a.die, h.b.die]
  rfl⟩
theorem dice_yes {ds : List Di} (hd : ∀ d ∈ ds, DiOk d) (hl : ds.length ≤ 999) (S : Store) : O_are_dice [.tup (ds.map diD)] S = some (.ok (.bl true) S) := by
  have := v_are_dice S (.tup (ds.map diD)) rfl fun xs e => by
    cases e
    refine ⟨by simp; omega, fun x hx => ?_⟩
    obtain ⟨d, h, rfl⟩ := List.mem_map.mp hx
    exact (diD_ok (hd d h)).1
  rwa [show diceB (.tup (ds.map diD)) = true from List.all_eq_true.mpr fun x hx => by
    obtain ⟨d, h, rfl⟩ := List.mem_map.mp hx
    exact (diD_ok (hd d h)).2] at this
abbrev led0 (R : List (List Int)) (m : Int) (a b c d : D) (r5 : Option D) : EnvD := [some (wb R m), some a, some b, some c, some d, r5, none, none, none, none]
theorem led_st (x a b c d : D) : startD ["web", "manner", "marks", "place", "dice", "size", "way", "moment", "first", "second"] [x, a, b, c, d] = [some x, some a, some b, some c, some d, none, none, none, none, none] := rfl
section
variable {s : Str} {M : D} {stay : Nat → Nat → Int → Int → Bool}
/-- a manner that is none -/
theorem led_manner (w : WK n R m) {a b c d : D} (h : ∀ S, oIn a (.tup [.str "go", .str "stay", .str "coin"]) S = some (.ok (.bl false) S)) (S : Store) : O_led [wb R m, a, b, c, d] S = nu "manner" S := by
  refine nu_exc (ρ := led0 R m a b c d (some (.int (n : Nat)))) ?_
  simp only [D_led, led_st]
  exact q_set (x_f1 rfl (v_size_of w S)) (q_exc (x_f2 (x_bin rfl rfl (h S)) rfl (v_require_no S "manner")))
/-- marks that are none -/
theorem led_marks (w : WK n R m) {b c d : D} (hi : ∀ S, oIn (.str s) (.tup [.str "go", .str "stay", .str "coin"]) S = some (.ok (.bl true) S))
    (h : ∀ S, dIf (dBin oEq (dVar 1) (dC (.str "coin"))) (dFn 2 O_is_coins (dCons (dVar 5) (dCons (dVar 2) (dNil)))) (dFn 2 O_is_brinks (dCons (dVar 5) (dCons (dVar 2) (dNil)))) (led0 R m (.str s) b c d (some (.int (n : Nat)))) S = some (.ok (.bl false) S)) (S : Store) : O_led [wb R m, .str s, b, c, d] S = nu "marks" S := by
  refine nu_exc (ρ := led0 R m (.str s) b c d (some (.int (n : Nat)))) ?_
  simp only [D_led, led_st]
  exact q_set (x_f1 rfl (v_size_of w S)) (q_expr (x_f2 (x_bin rfl rfl (hi S)) rfl (v_require_yes S "manner")) (q_exc (x_f2 (h S) rfl (v_require_no S "marks"))))
theorem led_place (w : WK n R m) (hm : Man n s M stay) {c d : D} (ht : told c = true) (hp : (numb c && decide (ival c < n)) = false) (S : Store) : O_led [wb R m, .str s, M, c, d] S = nu "place" S := by
  refine nu_exc (ρ := led0 R m (.str s) M c d (some (.int (n : Nat)))) ?_
  simp only [D_led, led_st]
  exact q_set (x_f1 rfl (v_size_of w S)) (q_expr (x_f2 (x_bin rfl rfl (hm.inn S)) rfl (v_require_yes S "manner")) (q_expr (x_f2 (hm.mar S _ rfl rfl rfl) rfl (v_require_yes S "marks")) (q_exc (x_f3 rfl rfl rfl (v_require_place_no w ht hp "place" S)))))
theorem led_dice (w : WK n R m) (hm : Man n s M stay) {c d : D} (ht : told c = true) (hp : (numb c && decide (ival c < n)) = true) (hd : ∀ S, O_are_dice [d] S = some (.ok (.bl false) S)) (S : Store) : O_led [wb R m, .str s, M, c, d] S = nu "dice" S := by
  refine nu_exc (ρ := led0 R m (.str s) M c d (some (.int (n : Nat)))) ?_
  simp only [D_led, led_st]
  exact q_set (x_f1 rfl (v_size_of w S)) (q_expr (x_f2 (x_bin rfl rfl (hm.inn S)) rfl (v_require_yes S "manner")) (q_expr (x_f2 (hm.mar S _ rfl rfl rfl) rfl (v_require_yes S "marks")) (q_expr (x_f3 rfl rfl rfl (v_require_place_yes w ht hp "place" S)) (q_exc (x_f2 (x_f1 rfl (hd S)) rfl (v_require_no S "dice"))))))
/-- what is told of a walker -/
theorem v_led (w : WK n R m) (hm : Man n s M stay) {p : Nat} (hp : p < n) {ds : List Di} (hd : ∀ d ∈ ds, DiOk d) (hl : ds.length ≤ 999) (S : Store) : O_led [wb R m, .str s, M, .int (p : Nat), .tup (ds.map diD)] S = some (.ok (.tup [.tup (wayD (walk n R m stay 0 p ds).1), .bl (walk n R m stay 0 p ds).2]) S) := by
  have cl : ∀ b, closed (.tup [.tup (wayD (walk n R m stay 0 p ds).1), .bl b]) = true := fun b => by simp only [closed, closeds, closed_way, Bool.and_self]
  have lo := led_loop (S := S) w hm (.int (p : Nat)) (.tup (ds.map diD)) (enumD 0 (ds.map diD)) ds 0 p [] none none none hp hd (by simp; omega)
  have it : dEnumA (dVar 4) (ldE n R m s M (.int (p : Nat)) (.tup (ds.map diD)) S.length none none none) (S ++ [wayD [p]]) = some (.ok (enumD 0 (ds.map diD)) none (S ++ [wayD [p]])) := rfl
  simp only [List.nil_append] at lo
  have hd2 := dice_yes hd hl S
  rcases lo with ⟨h1, e⟩ | ⟨h1, q7, q8, q9, e⟩
  · rw [h1]
    refine fn_rt (S1 := S ++ [wayD (walk n R m stay 0 p ds).1]) ?_ (by simp) (cl true)
    simp only [D_led, led_st]
    refine q_set (x_f1 rfl (v_size_of w S)) (q_expr (x_f2 (x_bin rfl rfl (hm.inn S)) rfl (v_require_yes S "manner")) (q_expr (x_f2 (hm.mar S _ rfl rfl rfl) rfl (v_require_yes S "marks")) (q_expr (x_f3 rfl rfl rfl (v_require_place_yes w (p := .int (p : Nat)) rfl (below_ok hp) "place" S)) (q_expr (x_f2 (x_f1 rfl hd2) rfl (v_require_yes S "dice")) (q_set (d := .ref S.length) (S1 := S ++ [wayD [p]]) rfl ?_)))))
    exact q_rt ((for_of it).trans e)
  · rw [h1]
    refine fn_rt (S1 := S ++ [wayD (walk n R m stay 0 p ds).1]) ?_ (by simp) (cl false)
    simp only [D_led, led_st]
    refine q_set (x_f1 rfl (v_size_of w S)) (q_expr (x_f2 (x_bin rfl rfl (hm.inn S)) rfl (v_require_yes S "manner")) (q_expr (x_f2 (hm.mar S _ rfl rfl rfl) rfl (v_require_yes S "marks")) (q_expr (x_f3 rfl rfl rfl (v_require_place_yes w (p := .int (p : Nat)) rfl (below_ok hp) "place" S)) (q_expr (x_f2 (x_f1 rfl hd2) rfl (v_require_yes S "dice")) (q_set (d := .ref S.length) (S1 := S ++ [wayD [p]]) rfl ?_)))))
    refine q_nx ((for_of it).trans e) (q_ret (x_tup (y_cons (x_c1 rfl ?_) (y_cons rfl y_nil)) rfl))
    show ((asList _ (.ref S.length)).map fun xs => Res.ok (.tup xs) _) = _
    simp only [asList, get_last, Option.map_some]
end
end
end My
set_option Elab.async false
set_option linter.all false
set_option maxRecDepth 100000
set_option maxHeartbeats 1000000
set_option exponentiation.threshold 20000
namespace My
open PySem PySem.Spec PyProof.Rows L2 PD
/-! ### the three manners -/
theorem strGo : PyData.strOk "go" = true := by decide +kernel
theorem strCoin : PyData.strOk "coin" = true := by decide +kernel
theorem word_st (a b c d e : D) : startD ["manner", "marks", "place", "moment", "die"] [a, b, c, d, e] = [some a, some b, some c, some d, some e] := rfl
theorem ite_swap (b : Bool) : (if b then ("go" : Str) else ("stay" : Str)) = if !b then ("stay" : Str) else ("go" : Str) := by cases b <;> rfl
theorem inn_of (s : Str) (h : ([D.str "go", .str "stay", .str "coin"].any fun y => eqF y (.str s)) = true) (S : Store) : oIn (.str s) (.tup [.str "go", .str "stay", .str "coin"]) S = some (.ok (.bl true) S) := by
  unfold oIn
  simp only [asSeq]
  rw [if_pos (by rfl), h]
section
variable {n : Nat} {b : Nat → Option (Nat × Int × Int)} {c : Nat → Int × Int}
theorem isN_yes (n1 : 1 ≤ n) (hn : n ≤ 1000) (h : ∀ i < n, GoodB (b i)) (S : Store) : O_is_brinks [.int (n : Nat), .tup (bl_ n b)] S = some (.ok (.bl true) S) := by
  have := v_is_brinks S n (.tup (bl_ n b)) rfl (bl_ok hn h)
  rwa [show brinksN n (.tup (bl_ n b)) = true by
    show ((bl_ n b).all bonB && decide ((bl_ n b).length = n)) = true
    rw [bl_all h, show (bl_ n b).length = n by simp [bl_], decide_eq_true rfl]
    rfl] at this
theorem cN_yes (n1 : 1 ≤ n) (hn : n ≤ 1000) (h : ∀ i < n, Coin (c i).1 (c i).2) (S : Store) : O_is_coins [.int (n : Nat), .tup (cn n c)] S = some (.ok (.bl true) S) := by
  have := v_is_coins S n (.tup (cn n c)) rfl (cn_ok hn h)
  rwa [show coinsN n (.tup (cn n c)) = true by
    show ((cn n c).all coinB && decide ((cn n c).length = n)) = true
    rw [cn_all h, show (cn n c).length = n by simp [cn], decide_eq_true rfl]
    rfl] at this
theorem man_go (n1 : 1 ≤ n) (hn : n ≤ 1000) (h : ∀ i < n, GoodB (b i)) : Man n "go" (.tup (bl_ n b)) (fun p t x y => !early (b p) t x y) where
  so := strGo
  inn := inn_of _ (by decide +kernel)
  mar := fun S ρ h1 h2 h5 => by
    have e : dBin oEq (dVar 1) (dC (.str "coin")) ρ S = some (.ok (.bl false) S) := x_bin (a := .str "go") (by rw [e_var, h1]) rfl (o_eqS strGo strCoin S)
    exact x_ifF e (x_f2 (d1 := .int (n : Nat)) (d2 := .tup (bl_ n b)) (by rw [e_var, h5]) (by rw [e_var, h2]) (isN_yes n1 hn h S))
  wd := fun p hp t x y d S => by
    refine fn_rtS ?_ rfl
    simp only [D_word_by, word_st]
    have e : dBin oEq (dVar 0) (dC (.str "go")) [some (.str "go"), some (.tup (bl_ n b)), some (.int (p : Nat)), some (.int (t : Nat)), some (pr x y)] S = some (.ok (.bl true) S) := x_bin rfl rfl (o_eqS strGo strGo S)
    show _ = some (SRes.rt (.str (if (!early (b p) t x y) = true then ("stay" : Str) else ("go" : Str))) S)
    rw [← ite_swap]
    exact q_ifR e (q_ret (x_f4 (f1 := dVar 1) (f2 := dVar 2) (f3 := dVar 3) (f4 := dVar 4) rfl rfl rfl rfl (v_go_word n1 hn h hp t d S)))
theorem man_stay (n1 : 1 ≤ n) (hn : n ≤ 1000) (h : ∀ i < n, GoodB (b i)) : Man n "stay" (.tup (bl_ n b)) (fun p t x y => early (b p) t x y) where
  so := strStay
  inn := inn_of _ (by decide +kernel)
  mar := fun S ρ h1 h2 h5 => by
    have e : dBin oEq (dVar 1) (dC (.str "coin")) ρ S = some (.ok (.bl false) S) := x_bin (a := .str "stay") (by rw [e_var, h1]) rfl (o_eqS strStay strCoin S)
    exact x_ifF e (x_f2 (d1 := .int (n : Nat)) (d2 := .tup (bl_ n b)) (by rw [e_var, h5]) (by rw [e_var, h2]) (isN_yes n1 hn h S))
  wd := fun p hp t x y d S => by
    refine fn_rtS ?_ rfl
    simp only [D_word_by, word_st]
    have e : dBin oEq (dVar 0) (dC (.str "go")) [some (.str "stay"), some (.tup (bl_ n b)), some (.int (p : Nat)), some (.int (t : Nat)), some (pr x y)] S = some (.ok (.bl false) S) := x_bin rfl rfl (o_eqS strStay strGo S)
    have e2 : dBin oEq (dVar 0) (dC (.str "stay")) [some (.str "stay"), some (.tup (bl_ n b)), some (.int (p : Nat)), some (.int (t : Nat)), some (pr x y)] S = some (.ok (.bl true) S) := x_bin rfl rfl (o_eqS strStay strStay S)
    exact q_ifF e (q_ifR e2 (q_ret (x_f4 (f1 := dVar 1) (f2 := dVar 2) (f3 := dVar 3) (f4 := dVar 4) rfl rfl rfl rfl (v_stay_word n1 hn h hp t d S))))
theorem man_coin (n1 : 1 ≤ n) (hn : n ≤ 1000) (h : ∀ i < n, Coin (c i).1 (c i).2) : Man n "coin" (.tup (cn n c)) (fun p t x y => decide (x * (c p).2 < (c p).1 * y)) where
  so := strCoin
  inn := inn_of _ (by decide +kernel)
  mar := fun S ρ h1 h2 h5 => by
    have e : dBin oEq (dVar 1) (dC (.str "coin")) ρ S = some (.ok (.bl true) S) := x_bin (a := .str "coin") (by rw [e_var, h1]) rfl (o_eqS strCoin strCoin S)
    exact x_ifT e (x_f2 (d1 := .int (n : Nat)) (d2 := .tup (cn n c)) (by rw [e_var, h5]) (by rw [e_var, h2]) (cN_yes n1 hn h S))
  wd := fun p hp t x y d S => by
    refine fn_rtS ?_ rfl
    simp only [D_word_by, word_st]
    have e : dBin oEq (dVar 0) (dC (.str "go")) [some (.str "coin"), some (.tup (cn n c)), some (.int (p : Nat)), some (.int (t : Nat)), some (pr x y)] S = some (.ok (.bl false) S) := x_bin rfl rfl (o_eqS strCoin strGo S)
    have e2 : dBin oEq (dVar 0) (dC (.str "stay")) [some (.str "coin"), some (.tup (cn n c)), some (.int (p : Nat)), some (.int (t : Nat)), some (pr x y)] S = some (.ok (.bl false) S) := x_bin rfl rfl (o_eqS strCoin strStay S)
    have v := v_coin_word n1 hn h hp d S
    have q : (if decide (x * (c p).2 < (c p).1 * y) = true then ("stay" : Str) else ("go" : Str)) = if x * (c p).2 < (c p).1 * y then ("stay" : Str) else ("go" : Str) := by
      by_cases z : x * (c p).2 < (c p).1 * y <;> simp [z]
    rw [q]
    exact q_ifF e (q_ifF e2 (q_ret (x_f3 (f1 := dVar 1) (f2 := dVar 2) (f3 := dVar 4) rfl rfl rfl v)))
end
end My
set_option Elab.async false
set_option linter.all false
set_option maxRecDepth 100000
set_option maxHeartbeats 1000000
set_option exponentiation.threshold 20000
namespace My
open PySem PySem.Spec PyProof.Rows L2 PD
/-! ### the law's lowest terms -/
noncomputable abbrev lgB : SDen := (sSeq (sIf (dBin oEq (dVar 1) (dC (.int 0))) (sSeq (sRet (dVar 0)) (sNil)) (sNil)) (sSeq (sPar 0 1 (dCons (dVar 1) (dCons (dBin oMod (dCall oInt1 (dCons (dVar 0) (dNil))) (dVar 1)) (dNil)))) (sNil)))
theorem lg_loop (S : Store) (all : List D) : ∀ (j : Nat) (xs : List D) (a b : Int) (r : Option D), xs.length = j → 0 ≤ a → 0 ≤ b → b < j → forLoop none all (tName 2) lgB xs [some (.int a), some (.int b), r] S = some (.rt (.int (Int.gcd a b : Int)) S)
  | 0, xs, a, b, r, hl, ha, hb, h => by omega
  | j + 1, [], a, b, r, hl, ha, hb, h => by simp at hl
  | j + 1, x :: xs, a, b, r, hl, ha, hb, h => by
    have t : dBin oEq (dVar 1) (dC (.int 0)) [some (.int a), some (.int b), some x] S = some (.ok (.bl (b == 0)) S) := x_bin rfl rfl (o_eqI _ _ S)
    by_cases z : b = 0
    · subst z
      rw [Int.gcd_zero_right, Int.natAbs_of_nonneg ha]
      exact loop_cons_rt rfl (q_ifR t (q_ret rfl))
    · rw [show (b == 0) = false by simpa using z] at t
      have m0 := Int.emod_nonneg a z
      have m1 := Int.emod_lt_of_pos a (show 0 < b by omega)
      have ih := lg_loop S all j xs b (a % b) (some x) (by simpa using hl) hb m0 (by omega)
      have e : Int.gcd b (a % b) = Int.gcd a b := by
        obtain ⟨u, rfl⟩ := Int.eq_ofNat_of_zero_le ha
        obtain ⟨v, rfl⟩ := Int.eq_ofNat_of_zero_le hb
        rw [← Int.natCast_emod, Int.gcd_natCast_natCast, Int.gcd_natCast_natCast, Nat.gcd_comm u v, Nat.gcd_rec v u, Nat.gcd_comm]
      rw [e] at ih
      have g : dCons (dVar 1) (dCons (dBin oMod (dCall oInt1 (dCons (dVar 0) (dNil))) (dVar 1)) (dNil)) [some (.int a), some (.int b), some x] S = some (.ok [.int b, .int (a % b)] S) := y_cons rfl (y_cons (x_bin (x_c1 rfl rfl) rfl (o_mod (by omega) S)) y_nil)
      have pp : sPar 0 1 (dCons (dVar 1) (dCons (dBin oMod (dCall oInt1 (dCons (dVar 0) (dNil))) (dVar 1)) (dNil))) [some (.int a), some (.int b), some x] S = some (.nx [some (.int b), some (.int (a % b)), some x] S) := by
        unfold sPar
        rw [g]
        rfl
      exact loop_cons_nx (ρ2 := [some (.int b), some (.int (a % b)), some x]) rfl (q_ifF t (q_nx pp rfl)) ih
theorem v_lgcd {a b : Int} (ha : 0 ≤ a) (hb : 0 ≤ b) (h : b < 200) (S : Store) : O__law_gcd [.int a, .int b] S = some (.ok (.int (Int.gcd a b : Int)) S) := by
  refine fn_rtS ?_ rfl
  simp only [D__law_gcd]
  rw [show startD ["_law_one", "_law_other", "_law_k"] [.int a, .int b] = [some (.int a), some (.int b), none] from rfl]
  exact q_forR (range1_of (n := 200) rfl (by decide)) (lg_loop S _ 200 _ a b none (rgD_length 0 200) ha hb (by omega))
/-- in lowest terms -/
def lowP (a b : Int) : Int := a / (Int.gcd b a : Int)
def lowQ (a b : Int) : Int := b / (Int.gcd b a : Int)
structure Low (a b x y : Int) : Prop where
  q : quot (pr x y) = true
  e : x * b = a * y
  x0 : 0 ≤ x
  y1 : 1 ≤ y
  xa : x ≤ a
  yb : y ≤ b
theorem low_ok {a b : Int} (ha : 0 ≤ a) (hb : 1 ≤ b) : Low a b (lowP a b) (lowQ a b) := by
  have g0 : 0 < (Int.gcd b a : Int) := by
    have : Int.gcd b a ≠ 0 := fun z => by have := (Int.gcd_eq_zero_iff.mp z).1; omega
    omega
  have d1 : (Int.gcd b a : Int) ∣ b := Int.gcd_dvd_left ..
  have d2 : (Int.gcd b a : Int) ∣ a := Int.gcd_dvd_right ..
  obtain ⟨u, hu⟩ := d1
  obtain ⟨v, hv⟩ := d2
  have cop : Int.gcd v u = 1 := by
    have := Int.gcd_ediv_gcd_ediv_gcd (i := b) (j := a) (by omega)
    have e1 : b / (Int.gcd b a : Int) = u := Int.ediv_eq_of_eq_mul_right (by omega) hu
    have e2 : a / (Int.gcd b a : Int) = v := Int.ediv_eq_of_eq_mul_right (by omega) hv
    rw [e1, e2] at this
    rw [Int.gcd_comm]; exact this
  generalize hg : (Int.gcd b a : Int) = g at *
  have e1 : b / g = u := by rw [hu]; exact Int.mul_ediv_cancel_left _ (by omega)
  have e2 : a / g = v := by rw [hv]; exact Int.mul_ediv_cancel_left _ (by omega)
  have u1 : 1 ≤ u := by
    apply Int.not_lt.mp
    intro z
    have := Int.mul_nonpos_of_nonneg_of_nonpos (show 0 ≤ g by omega) (show u ≤ 0 by omega)
    omega
  have v0 : 0 ≤ v := by
    apply Int.not_lt.mp
    intro z
    have := Int.mul_neg_of_pos_of_neg g0 z
    omega
  unfold lowP lowQ
  rw [hg, e1, e2]
  refine ⟨quot_pr.mpr ⟨u1, cop⟩, ?_, v0, u1, ?_, ?_⟩
  · rw [hu, hv, Int.mul_comm g u, ← Int.mul_assoc, Int.mul_comm g v, Int.mul_assoc, Int.mul_assoc, Int.mul_comm u g]
  · have := Int.mul_le_mul_of_nonneg_right (show 1 ≤ g by omega) v0
    omega
  · have := Int.mul_le_mul_of_nonneg_right (show 1 ≤ g by omega) (show 0 ≤ u by omega)
    omega
theorem sm60 {x : Int} (h0 : 0 ≤ x) (h1 : x < 200) : small x := by
  unfold small
  exact Nat.lt_of_le_of_lt (show x.natAbs ≤ 200 by omega) (Nat.lt_of_lt_of_le (by decide : 200 < 2 ^ 8) (Nat.pow_le_pow_right (by decide) (by decide)))
theorem v_lowest {a b : Int} (ha : 0 ≤ a) (ha2 : a < 200) (hb : 1 ≤ b) (hb2 : b < 200) (S : Store) : O__law_lowest [.int a, .int b] S = some (.ok (pr (lowP a b) (lowQ a b)) S) := by
  refine fn_rtS ?_ rfl
  simp only [D__law_lowest]
  rw [show startD ["_law_top", "_law_bottom", "_law_part"] [.int a, .int b] = [some (.int a), some (.int b), none] from rfl]
  have g := v_lgcd (a := b) (b := a) (by omega) ha ha2 S
  have g0 : 0 < (Int.gcd b a : Int) := by
    have : Int.gcd b a ≠ 0 := fun z => by have := (Int.gcd_eq_zero_iff.mp z).1; omega
    omega
  have gb : (Int.gcd b a : Int) ≤ b := Int.le_of_dvd (by omega) (Int.gcd_dvd_left ..)
  have lg : ((Int.gcd b a : Int)).natAbs.log2 < 9000 := by
    have := log_small (a := (Int.gcd b a : Int)) (sm60 (by omega) (by omega))
    omega
  exact q_set (x_f2 (f1 := dVar 1) (f2 := dVar 0) rfl rfl g) (q_ret (x_tup (y_cons (x_bin rfl rfl (o_divI g0 lg S)) (y_cons (x_bin rfl rfl (o_divI g0 lg S)) y_nil)) rfl))
theorem Low.die {a b x y : Int} (h : Low a b x y) (hab : a < b) (hb : b < 200) : Die x y := by
  have hx := h.x0
  have hy := h.y1
  have := h.xa
  have := h.yb
  refine ⟨h.q, h.x0, ?_, sm60 h.x0 (by omega), sm60 (by omega) (by omega)⟩
  apply Int.not_le.mp
  intro z
  have e := h.e
  have h1 : y * b ≤ x * b := Int.mul_le_mul_of_nonneg_right z (by omega)
  have h2 : a * y < b * y := Int.mul_lt_mul_of_pos_right hab (by omega)
  rw [Int.mul_comm b y] at h2
  omega
theorem Low.coin {a b x y : Int} (h : Low a b x y) (hab : a ≤ b) (hb : b < 200) (hb1 : 1 ≤ b) : Coin x y := by
  have hx := h.x0
  have hy := h.y1
  have := h.xa
  have := h.yb
  refine ⟨h.q, h.x0, ?_, sm60 h.x0 (by omega), sm60 (by omega) (by omega)⟩
  apply Int.not_lt.mp
  intro z
  have e := h.e
  have h1 : y * b < x * b := Int.mul_lt_mul_of_pos_right z (by omega)
  have h2 : a * y ≤ b * y := Int.mul_le_mul_of_nonneg_right hab (by omega)
  rw [Int.mul_comm b y] at h2
  omega
/-- two shares with the same bottom -/
theorem low_lt {a b x y c p q : Int} (h : Low a b x y) (k : Low c b p q) (hb : 1 ≤ b) : x * q < p * y ↔ a < c := by
  have e1 := h.e
  have e2 := k.e
  have y1 := h.y1
  have q1 := k.y1
  have m : x * q * b = a * (y * q) := by rw [Int.mul_right_comm, e1, Int.mul_assoc]
  have m2 : p * y * b = c * (y * q) := by rw [Int.mul_right_comm, e2, Int.mul_assoc, Int.mul_comm q y]
  have yq : 0 < y * q := Int.mul_pos (by omega) (by omega)
  constructor
  · intro z
    have := Int.mul_lt_mul_of_pos_right z (show 0 < b by omega)
    rw [m, m2] at this
    exact Int.lt_of_mul_lt_mul_right this (by omega)
  · intro z
    have := Int.mul_lt_mul_of_pos_right z yq
    rw [← m, ← m2] at this
    exact Int.lt_of_mul_lt_mul_right this (by omega)
end My
set_option Elab.async false
set_option linter.all false
set_option maxRecDepth 100000
set_option maxHeartbeats 1000000
set_option exponentiation.threshold 20000
namespace My
open PySem PySem.Spec PyProof.Rows L2 PD
/-! ### the numbers that the script gives -/
noncomputable abbrev numB : SDen := (sSeq (sIf (dBin oEq (dCall oLen (dCons (dVar 0) (dNil))) (dC (.int 0))) (sSeq (sExpr (dApp (dVar 2) (dBin oPlus (dBin oMul (dVar 4) (dC (.int 43))) (dC (.int 14))))) (sNil)) (sSeq (sIf (dBin oGt (dVar 3) (dC (.int 0))) (sSeq (sExpr (dApp (dVar 2) (dBin oMod (dCall oInt1 (dCons (dVar 3) (dNil))) (dC (.int 100000007))))) (sSeq (sSet 3 (dBin oDiv (dVar 3) (dC (.int 100000007)))) (sNil))) (sSeq (sSet 5 (dBin oIx (dVar 0) (dBin oMod (dVar 4) (dCall oLen (dCons (dVar 0) (dNil)))))) (sSeq (sSet 6 (dBin oMod (dCall oInt1 (dCons (dBin oPlus (dBin oPlus (dBin oPlus (dBin oMul (dVar 5) (dC (.int 50021))) (dBin oMul (dVar 4) (dC (.int 27779)))) (dBin oMul (dCall oLen (dCons (dVar 0) (dNil))) (dC (.int 61813)))) (dC (.int 389))) (dNil))) (dC (.int 2147483647)))) (sSeq (sSet 6 (dBin oMod (dCall oInt1 (dCons (dBin oPlus (dBin oPlus (dBin oMul (dVar 6) (dVar 6)) (dBin oMul (dVar 4) (dC (.int 61813)))) (dC (.int 14))) (dNil))) (dC (.int 2147483629)))) (sSeq (sSet 6 (dBin oMod (dCall oInt1 (dCons (dBin oPlus (dBin oPlus (dBin oPlus (dBin oMul (dVar 6) (dVar 6)) (dBin oMul (dVar 6) (dC (.int 27779)))) (dC (.int 50021))) (dVar 4)) (dNil))) (dC (.int 2147483587)))) (sSeq (sExpr (dApp (dVar 2) (dBin oMod (dCall oInt1 (dCons (dVar 6) (dNil))) (dC (.int 100000007))))) (sNil))))))) (sNil))) (sNil))
noncomputable abbrev mixB : SDen := (sSeq (sSet 5 (dBin oIx (dVar 0) (dBin oMod (dVar 4) (dCall oLen (dCons (dVar 0) (dNil)))))) (sSeq (sSet 6 (dBin oMod (dCall oInt1 (dCons (dBin oPlus (dBin oPlus (dBin oPlus (dBin oMul (dVar 5) (dC (.int 50021))) (dBin oMul (dVar 4) (dC (.int 27779)))) (dBin oMul (dCall oLen (dCons (dVar 0) (dNil))) (dC (.int 61813)))) (dC (.int 389))) (dNil))) (dC (.int 2147483647)))) (sSeq (sSet 6 (dBin oMod (dCall oInt1 (dCons (dBin oPlus (dBin oPlus (dBin oMul (dVar 6) (dVar 6)) (dBin oMul (dVar 4) (dC (.int 61813)))) (dC (.int 14))) (dNil))) (dC (.int 2147483629)))) (sSeq (sSet 6 (dBin oMod (dCall oInt1 (dCons (dBin oPlus (dBin oPlus (dBin oPlus (dBin oMul (dVar 6) (dVar 6)) (dBin oMul (dVar 6) (dC (.int 27779)))) (dC (.int 50021))) (dVar 4)) (dNil))) (dC (.int 2147483587)))) (sSeq (sExpr (dApp (dVar 2) (dBin oMod (dCall oInt1 (dCons (dVar 6) (dNil))) (dC (.int 100000007))))) (sNil))))))
abbrev nE (ns : List Int) (N : Nat) (rest : Int) (k : Nat) (r5 r6 : Option D) : EnvD := [some (.scr ns), some (.int 24), some (.ref N), some (.int rest), some (.int (k : Nat)), r5, r6]
theorem mod_b (a : Int) {m : Int} (hm : 0 < m) : 0 ≤ a % m ∧ a % m < m := ⟨Int.emod_nonneg a (by omega), Int.emod_lt_of_pos a hm⟩
theorem sm31 {x : Int} (h0 : 0 ≤ x) (h1 : x < 2147483647) : small x := by
  unfold small
  exact Nat.lt_of_le_of_lt (show x.natAbs ≤ 2147483647 by omega) (Nat.lt_of_lt_of_le (by decide : 2147483647 < 2 ^ 32) (Nat.pow_le_pow_right (by decide) (by decide)))
theorem num_turn (ns : List Int) (hn : ns.length ≤ 63) (S : Store) (acc : List Int) (hl : acc.length ≤ 1000) {k : Nat} (hk : k < 24) (rest : Int) (r5 r6 : Option D) :
    ∃ x rest' q5 q6, 0 ≤ x ∧ x < 100000007 ∧ numB (nE ns S.length rest k r5 r6) (S ++ [acc.map .int]) = some (.nx (nE ns S.length rest' k q5 q6) (S ++ [(acc ++ [x]).map .int])) := by
  have ap : ∀ (ρ : EnvD) (f : Den) (x : Int), ρ[2]? = some (some (.ref S.length)) → f ρ (S ++ [acc.map .int]) = some (.ok (.int x) (S ++ [acc.map .int])) → dApp (dVar 2) f ρ (S ++ [acc.map .int]) = some (.ok .non (S ++ [(acc ++ [x]).map .int])) := fun ρ f x hρ hf => by
    have a := p_app (ρ := ρ) (fo := dVar 2) (n := S.length) (by rw [e_var, hρ]) hf (get_last S _) (by simp; omega)
    rw [set_last] at a
    rw [a, List.map_append]
    rfl
  have t1 : ∀ V, dBin oEq (dCall oLen (dCons (dVar 0) (dNil))) (dC (.int 0)) (nE ns S.length rest k r5 r6) V = some (.ok (.bl (((ns.length : Nat) : Int) == 0)) V) := fun V => x_bin (x_c1 rfl (e_lenS ns V)) rfl (o_eqI _ _ V)
  by_cases z : ((ns.length : Nat) : Int) = 0
  · simp only [z, beq_self_eq_true] at t1
    refine ⟨(k : Int) * 43 + 14, rest, r5, r6, by omega, by omega, ?_⟩
    exact q_ifT (t1 _) (q_expr (ap _ _ _ rfl (x_bin (x_bin rfl rfl (e_mulR (by decide) _)) rfl rfl)) rfl) rfl
  · have zb : (((ns.length : Nat) : Int) == 0) = false := by simpa using z
    simp only [zb] at t1
    have t2 : ∀ V, dBin oGt (dVar 3) (dC (.int 0)) (nE ns S.length rest k r5 r6) V = some (.ok (.bl (decide (0 < rest))) V) := fun V => x_bin rfl rfl (o_gtI _ _ V)
    by_cases y : 0 < rest
    · simp only [decide_eq_true y] at t2
      obtain ⟨m0, m1⟩ := mod_b rest (m := 100000007) (by decide)
      refine ⟨rest % 100000007, rest / 100000007, r5, r6, m0, m1, ?_⟩
      have q : (sSeq (sExpr (dApp (dVar 2) (dBin oMod (dCall oInt1 (dCons (dVar 3) (dNil))) (dC (.int 100000007))))) (sSeq (sSet 3 (dBin oDiv (dVar 3) (dC (.int 100000007)))) (sNil))) (nE ns S.length rest k r5 r6) (S ++ [acc.map .int]) = some (.nx (nE ns S.length (rest / 100000007) k r5 r6) (S ++ [(acc ++ [rest % 100000007]).map .int])) :=
        q_expr (ap _ _ _ rfl (x_bin (x_c1 rfl rfl) rfl (o_mod (by decide) _))) (q_set (x_bin rfl rfl (o_divI (by decide) (by decide) _)) rfl)
      refine q_nx ?_ rfl
      rw [e_if, t1]
      exact q_ifT (t2 _) q rfl
    · simp only [decide_eq_false y] at t2
      have l0 : 0 < ((ns.length : Nat) : Int) := by omega
      obtain ⟨i0, i1⟩ := mod_b (k : Int) l0
      obtain ⟨i, hi⟩ := Int.eq_ofNat_of_zero_le i0
      have il : i < ns.length := by omega
      have ic : ∀ V, oIx (.scr ns) (.int (i : Nat)) V = some (.ok (.int (gt ns i)) V) := fun V => ixAny (show asSeq V (.scr ns) = some (ns.map .int) from rfl) il
      generalize gt ns i = c at ic
      obtain ⟨a0, a1⟩ := mod_b (c * 50021 + (k : Int) * 27779 + ((ns.length : Nat) : Int) * 61813 + 389) (m := 2147483647) (by decide)
      generalize ha : (c * 50021 + (k : Int) * 27779 + ((ns.length : Nat) : Int) * 61813 + 389) % 2147483647 = a at a0 a1
      obtain ⟨b0, b1⟩ := mod_b (a * a + (k : Int) * 61813 + 14) (m := 2147483629) (by decide)
      generalize hb : (a * a + (k : Int) * 61813 + 14) % 2147483629 = b at b0 b1
      obtain ⟨d0, d1⟩ := mod_b (b * b + b * 27779 + 50021 + (k : Int)) (m := 2147483587) (by decide)
      generalize hd : (b * b + b * 27779 + 50021 + (k : Int)) % 2147483587 = d at d0 d1
      obtain ⟨m0, m1⟩ := mod_b d (m := 100000007) (by decide)
      refine ⟨d % 100000007, rest, some (.int c), some (.int d), m0, m1, ?_⟩
      have sa := sm31 a0 (by omega)
      have sb := sm31 b0 (by omega)
      have e5 : dBin oIx (dVar 0) (dBin oMod (dVar 4) (dCall oLen (dCons (dVar 0) (dNil)))) (nE ns S.length rest k r5 r6) (S ++ [acc.map .int]) = some (.ok (.int c) (S ++ [acc.map .int])) := x_bin rfl (x_bin rfl (x_c1 rfl (e_lenS ns _)) ((o_mod l0 _).trans (by rw [hi]))) (ic _)
      have e6 : dBin oMod (dCall oInt1 (dCons (dBin oPlus (dBin oPlus (dBin oPlus (dBin oMul (dVar 5) (dC (.int 50021))) (dBin oMul (dVar 4) (dC (.int 27779)))) (dBin oMul (dCall oLen (dCons (dVar 0) (dNil))) (dC (.int 61813)))) (dC (.int 389))) (dNil))) (dC (.int 2147483647)) (nE ns S.length rest k (some (.int c)) r6) (S ++ [acc.map .int]) = some (.ok (.int a) (S ++ [acc.map .int])) := by
        rw [← ha]
        exact x_bin (x_c1 (x_bin (x_bin (x_bin (x_bin rfl rfl (e_mulR (by decide) _)) (x_bin rfl rfl (e_mulR (by decide) _)) rfl) (x_bin (x_c1 rfl (e_lenS ns _)) rfl (e_mulR (by decide) _)) rfl) rfl rfl) rfl) rfl (o_mod (by decide) _)
      have e7 : dBin oMod (dCall oInt1 (dCons (dBin oPlus (dBin oPlus (dBin oMul (dVar 6) (dVar 6)) (dBin oMul (dVar 4) (dC (.int 61813)))) (dC (.int 14))) (dNil))) (dC (.int 2147483629)) (nE ns S.length rest k (some (.int c)) (some (.int a))) (S ++ [acc.map .int]) = some (.ok (.int b) (S ++ [acc.map .int])) := by
        rw [← hb]
        exact x_bin (x_c1 (x_bin (x_bin (x_bin rfl rfl (e_mulI sa sa _)) (x_bin rfl rfl (e_mulR (by decide) _)) rfl) rfl rfl) rfl) rfl (o_mod (by decide) _)
      have e8 : dBin oMod (dCall oInt1 (dCons (dBin oPlus (dBin oPlus (dBin oPlus (dBin oMul (dVar 6) (dVar 6)) (dBin oMul (dVar 6) (dC (.int 27779)))) (dC (.int 50021))) (dVar 4)) (dNil))) (dC (.int 2147483587)) (nE ns S.length rest k (some (.int c)) (some (.int b))) (S ++ [acc.map .int]) = some (.ok (.int d) (S ++ [acc.map .int])) := by
        rw [← hd]
        exact x_bin (x_c1 (x_bin (x_bin (x_bin (x_bin rfl rfl (e_mulI sb sb _)) (x_bin rfl rfl (e_mulR (by decide) _)) rfl) rfl rfl) rfl rfl) rfl) rfl (o_mod (by decide) _)
      have q : mixB (nE ns S.length rest k r5 r6) (S ++ [acc.map .int]) = some (.nx (nE ns S.length rest k (some (.int c)) (some (.int d))) (S ++ [(acc ++ [d % 100000007]).map .int])) :=
        q_set e5 (q_set e6 (q_set e7 (q_set e8 (q_expr (ap _ _ _ rfl (x_bin (x_c1 rfl rfl) rfl (o_mod (by decide) _))) rfl))))
      refine q_nx ?_ rfl
      rw [e_if, t1]
      refine q_nx ?_ rfl
      rw [e_if, t2]
      exact q
theorem num_loop (ns : List Int) (hn : ns.length ≤ 63) (S : Store) (all : List D) : ∀ (j k : Nat) (acc : List Int) (rest : Int) (r4 r5 r6 : Option D), k + j ≤ 24 → acc.length = k → (∀ x ∈ acc, 0 ≤ x ∧ x < 100000007) →
    ∃ (acc' : List Int) (rest' : Int) (q4 q5 q6 : Option D), acc'.length = k + j ∧ (∀ x ∈ acc', 0 ≤ x ∧ x < 100000007) ∧ forLoop none all (tName 4) numB ((List.range' k j).map fun i => D.int (i : Nat)) [some (.scr ns), some (.int 24), some (.ref S.length), some (.int rest), r4, r5, r6] (S ++ [acc.map .int]) = some (.nx [some (.scr ns), some (.int 24), some (.ref S.length), some (.int rest'), q4, q5, q6] (S ++ [acc'.map .int]))
  | 0, k, acc, rest, r4, r5, r6, _, hl, hb => ⟨acc, rest, r4, r5, r6, hl, hb, rfl⟩
  | j + 1, k, acc, rest, r4, r5, r6, hk, hl, hb => by
    obtain ⟨x, rest1, q5, q6, x0, x1, e1⟩ := num_turn ns hn S acc (by omega) (show k < 24 by omega) rest r5 r6
    obtain ⟨acc', rest', y4, y5, y6, i1, i2, e2⟩ := num_loop ns hn S all j (k + 1) (acc ++ [x]) rest1 (some (.int (k : Nat))) q5 q6 (by omega) (by simp [hl]) (fun y hy => by
      rcases List.mem_append.mp hy with z | z
      · exact hb y z
      · rw [List.mem_singleton.mp z]; exact ⟨x0, x1⟩)
    exact ⟨acc', rest', y4, y5, y6, by omega, i2, loopS_cons rfl e1 e2⟩
theorem v_numbers (ns : List Int) (hn : ns.length ≤ 63) (S : Store) : ∃ xs : List Int, xs.length = 24 ∧ (∀ x ∈ xs, 0 ≤ x ∧ x < 100000007) ∧ O__law_numbers [.scr ns, .int 24] S = some (.ok (.lst (xs.map .int)) S) := by
  have c0 : ∀ V, dAnd (dBin oGt (dCall oLen (dCons (dVar 0) (dNil))) (dC (.int 0))) (dBin oGe (dBin oIx (dVar 0) (dC (.int 0))) (dBin oPow (dC (.int 10)) (dC (.int 18)))) [some (.scr ns), some (.int 24), some (.ref S.length), some (.int 0), none, none, none] V = some (.ok (.bl (decide (0 < ((ns.length : Nat) : Int)) && decide (10 ^ 18 ≤ gt ns 0))) V) := fun V => by
    refine x_and (x_bin (x_c1 rfl (e_lenS ns V)) rfl (o_gtI _ _ V)) fun h => ?_
    have h := of_decide_eq_true h
    exact x_bin (x_bin rfl rfl (ixAny (j := 0) (show asSeq V (.scr ns) = some (ns.map .int) from rfl) (by omega))) (x_bin rfl rfl rfl) (o_geI _ _ V)
  have start : ∃ rest : Int, ∀ (r : SDen) (R : Option SRes) V, r [some (.scr ns), some (.int 24), some (.ref S.length), some (.int rest), none, none, none] V = R → sSeq (sIf (dAnd (dBin oGt (dCall oLen (dCons (dVar 0) (dNil))) (dC (.int 0))) (dBin oGe (dBin oIx (dVar 0) (dC (.int 0))) (dBin oPow (dC (.int 10)) (dC (.int 18))))) (sSeq (sSet 3 (dBin oIx (dVar 0) (dC (.int 0)))) (sNil)) (sNil)) r [some (.scr ns), some (.int 24), some (.ref S.length), some (.int 0), none, none, none] V = R := by
    by_cases h : (decide (0 < ((ns.length : Nat) : Int)) && decide (10 ^ 18 ≤ gt ns 0)) = true
    · rw [h] at c0
      have hl : 0 < ns.length := by
        simp only [Bool.and_eq_true, decide_eq_true_eq] at h
        omega
      exact ⟨gt ns 0, fun r R V hr => q_ifT (c0 V) (q_set (x_bin rfl rfl (ixAny (j := 0) (show asSeq V (.scr ns) = some (ns.map .int) from rfl) hl)) rfl) hr⟩
    · simp only [Bool.not_eq_true] at h
      rw [h] at c0
      exact ⟨0, fun r R V hr => q_ifF (c0 V) hr⟩
  obtain ⟨rest, start⟩ := start
  obtain ⟨xs, rest', q4, q5, q6, h1, h2, e⟩ := num_loop ns hn S ((List.range' 0 24).map fun i => D.int (i : Nat)) 24 0 [] rest none none none (by omega) rfl (fun x hx => nomatch hx)
  refine ⟨xs, by omega, h2, ?_⟩
  have fz_ : fz (S ++ [xs.map .int]) S.length (.ref S.length) = some (.lst (xs.map .int)) := by
    simp only [fz, mapRef, fzg, Nat.lt_irrefl, if_false, get_last, maps_closed (closeds_map_int xs), Option.map_some]
  refine fn_rtF (E := [xs.map .int]) ?_ fz_
  simp only [D__law_numbers]
  rw [show startD ["_law_script", "_law_many", "_law_numbers_here", "_law_rest", "_law_k", "_law_cell", "_law_mixed"] [.scr ns, .int 24] = [some (.scr ns), some (.int 24), none, none, none, none, none] from rfl]
  have rg : dRange1 (dVar 1) [some (.scr ns), some (.int 24), some (.ref S.length), some (.int rest), none, none, none] (S ++ [[]]) = some (.ok ((List.range' 0 24).map fun i => D.int (i : Nat)) none (S ++ [[]])) := by
    rw [range1_of (n := 24) rfl (by decide), rgD_map, List.range_eq_range']
  exact q_set (d := .ref S.length) (S1 := S ++ [[]]) rfl (q_set rfl (start _ _ _ (q_nx ((for_of rg).trans e) (q_ret rfl))))
end My
set_option Elab.async false
set_option linter.all false
set_option maxRecDepth 100000
set_option maxHeartbeats 1000000
set_option exponentiation.threshold 20000
namespace My
open PySem PySem.Spec PyProof.Rows L2 PD
/-! ### the marks that the law draws -/
section
variable {xs : List Int} {b : Int} {n : Nat}
theorem x_atI {ρ : EnvD} {S : Store} {i j k : Nat} {at_ : Nat} (h0 : ρ[i]? = some (some (.lst (xs.map .int)))) (h1 : ρ[j]? = some (some (.int (at_ : Nat)))) (h2 : ρ[k]? = some (some (.int ((n : Nat) : Int)))) (hl : at_ + n < xs.length) : dBin oIx (dVar i) (dBin oPlus (dVar j) (dVar k)) ρ S = some (.ok (.int (gt xs (at_ + n))) S) :=
  x_bin (by rw [e_var, h0]) (x_bin (b := .int ((n : Nat) : Int)) (by rw [e_var, h1]) (by rw [e_var, h2]) rfl) (ixLi (i := at_ + n) hl S)
theorem gt_nn (hx : ∀ x ∈ xs, 0 ≤ x ∧ x < 100000007) {i : Nat} (hi : i < xs.length) : 0 ≤ gt xs i ∧ gt xs i < 100000007 := by
  have : gt xs i ∈ xs := by rw [gt_get hi]; exact List.getElem_mem hi
  exact hx _ this
def coinOf (xs : List Int) (at_ : Nat) (b : Int) (i : Nat) : Int × Int := (lowP (gt xs (at_ + i) % (b + 1)) b, lowQ (gt xs (at_ + i) % (b + 1)) b)
theorem v_coins (b1 : 1 ≤ b) (b2 : b ≤ 60) {at_ : Nat} (hl : at_ + n ≤ xs.length) (hn : n ≤ 24) (S : Store) : O__law_coins [.lst (xs.map .int), .int (at_ : Nat), .int (n : Nat), .int b] S = some (.ok (.tup (cn n (coinOf xs at_ b))) S) := by
  have cl : closeds (cn n (coinOf xs at_ b)) = true := by
    rw [closeds_all]
    refine List.all_eq_true.mpr fun x hx => ?_
    obtain ⟨i, _, rfl⟩ := List.mem_map.mp hx
    rfl
  refine fn_rtS ?_ (by simp only [closed]; exact cl)
  simp only [D__law_coins]
  rw [show startD ["_law_numbers_here", "_law_at", "_law_size", "_law_bottom", "_law_i"] [.lst (xs.map .int), .int (at_ : Nat), .int (n : Nat), .int b] = [some (.lst (xs.map .int)), some (.int (at_ : Nat)), some (.int (n : Nat)), some (.int b), none] from rfl]
  have lo := lc_range (own := [4]) (t := .one 4) (elt := dFn 2 O__law_lowest (dCons (dBin oMod (dCall oInt1 (dCons (dBin oIx (dVar 0) (dBin oPlus (dVar 1) (dVar 4))) (dNil))) (dBin oPlus (dVar 3) (dC (.int 1)))) (dCons (dVar 3) (dNil)))) (f := dRange1 (dVar 2)) (ρ := [some (.lst (xs.map .int)), some (.int (at_ : Nat)), some (.int (n : Nat)), some (.int b), none]) (S := S) n (fun i => pr (coinOf xs at_ b i).1 (coinOf xs at_ b i).2) (fun i => [some (.lst (xs.map .int)), some (.int (at_ : Nat)), some (.int (n : Nat)), some (.int b), some (.int (i : Nat))])
    (range1_of (n := n) rfl (by omega)) (fun _ _ => rfl) (fun i hi V => by
      obtain ⟨m0, m1⟩ := mod_b (gt xs (at_ + i)) (show 0 < b + 1 by omega)
      exact x_f2 (x_bin (x_c1 (x_atI (n := i) rfl rfl rfl (by omega)) rfl) (x_bin rfl rfl rfl) (o_mod (by omega) V)) rfl (v_lowest m0 (by omega) b1 (by omega) V)) (by omega) cl
  exact q_ret (x_c1 lo rfl)
theorem coinOf_ok (b1 : 1 ≤ b) (b2 : b ≤ 60) (at_ i : Nat) : Low (gt xs (at_ + i) % (b + 1)) b (coinOf xs at_ b i).1 (coinOf xs at_ b i).2 ∧ 0 ≤ gt xs (at_ + i) % (b + 1) ∧ gt xs (at_ + i) % (b + 1) ≤ b := by
  obtain ⟨m0, m1⟩ := mod_b (gt xs (at_ + i)) (show 0 < b + 1 by omega)
  exact ⟨low_ok m0 b1, m0, by omega⟩
/-! brinks -/
def brinkOf (xs : List Int) (at_ : Nat) (b m : Int) (i : Nat) : Option (Nat × Int × Int) := if gt xs (at_ + i) % 5 = 3 then none else some ((gt xs (at_ + i) / 5 % (m + 1)).toNat, lowP (gt xs (at_ + i) / 25 % b) b, lowQ (gt xs (at_ + i) / 25 % b) b)
abbrev brE (xs : List Int) (at_ n : Nat) (b m : Int) (N : Nat) (r6 r7 : Option D) : EnvD := [some (.lst (xs.map .int)), some (.int (at_ : Nat)), some (.int (n : Nat)), some (.int b), some (.int m), some (.ref N), r6, r7]
noncomputable abbrev brB : SDen := (sSeq (sSet 7 (dBin oIx (dVar 0) (dBin oPlus (dVar 1) (dVar 6)))) (sSeq (sIf (dBin oEq (dBin oMod (dVar 7) (dC (.int 5))) (dC (.int 3))) (sSeq (sExpr (dApp (dVar 5) (dC .non))) (sNil)) (sSeq (sExpr (dApp (dVar 5) (dTup (dCons (dBin oMod (dBin oDiv (dVar 7) (dC (.int 5))) (dBin oPlus (dVar 4) (dC (.int 1)))) (dCons (dFn 2 O__law_lowest (dCons (dBin oMod (dCall oInt1 (dCons (dBin oDiv (dVar 7) (dC (.int 25))) (dNil))) (dVar 3)) (dCons (dVar 3) (dNil)))) (dNil)))))) (sNil))) (sNil)))
theorem br_loop (b1 : 1 ≤ b) (b2 : b ≤ 60) {m : Int} (m1 : 0 ≤ m) {at_ : Nat} (hl : at_ + n ≤ xs.length) (hn : n ≤ 24) (S : Store) (all : List D) : ∀ (j k : Nat) (r6 r7 : Option D), k + j ≤ n →
    ∃ q6 q7, forLoop none all (tName 6) brB ((List.range' k j).map fun i => D.int (i : Nat)) (brE xs at_ n b m S.length r6 r7) (S ++ [bl_ k (brinkOf xs at_ b m)]) = some (.nx (brE xs at_ n b m S.length q6 q7) (S ++ [bl_ (k + j) (brinkOf xs at_ b m)]))
  | 0, k, r6, r7, _ => ⟨r6, r7, rfl⟩
  | j + 1, k, r6, r7, hk => by
    obtain ⟨q6, q7, ih⟩ := br_loop b1 b2 m1 hl hn S all j (k + 1) (some (.int (k : Nat))) (some (.int (gt xs (at_ + k)))) (by omega)
    rw [show k + 1 + j = k + (j + 1) by omega] at ih
    have ap : ∀ (f : Den) (d : D), f (brE xs at_ n b m S.length (some (.int (k : Nat))) (some (.int (gt xs (at_ + k))))) (S ++ [bl_ k (brinkOf xs at_ b m)]) = some (.ok d (S ++ [bl_ k (brinkOf xs at_ b m)])) → d = bD (brinkOf xs at_ b m k) → dApp (dVar 5) f (brE xs at_ n b m S.length (some (.int (k : Nat))) (some (.int (gt xs (at_ + k))))) (S ++ [bl_ k (brinkOf xs at_ b m)]) = some (.ok .non (S ++ [bl_ (k + 1) (brinkOf xs at_ b m)])) := fun f d hf hd => by
      have a := p_app (ρ := brE xs at_ n b m S.length (some (.int (k : Nat))) (some (.int (gt xs (at_ + k))))) (fo := dVar 5) (n := S.length) rfl hf (get_last S _) (by simp [bl_]; omega)
      rw [set_last, hd] at a
      rw [a]
      unfold bl_
      rw [List.range_succ, List.map_append]
      rfl
    have e7 : dBin oIx (dVar 0) (dBin oPlus (dVar 1) (dVar 6)) (brE xs at_ n b m S.length (some (.int (k : Nat))) r7) (S ++ [bl_ k (brinkOf xs at_ b m)]) = some (.ok (.int (gt xs (at_ + k))) (S ++ [bl_ k (brinkOf xs at_ b m)])) := x_atI (n := k) rfl rfl rfl (by omega)
    have t : dBin oEq (dBin oMod (dVar 7) (dC (.int 5))) (dC (.int 3)) (brE xs at_ n b m S.length (some (.int (k : Nat))) (some (.int (gt xs (at_ + k))))) (S ++ [bl_ k (brinkOf xs at_ b m)]) = some (.ok (.bl (gt xs (at_ + k) % 5 == 3)) (S ++ [bl_ k (brinkOf xs at_ b m)])) := x_bin (x_bin rfl rfl (o_mod (by decide) _)) rfl (o_eqI _ _ _)
    refine ⟨q6, q7, loopS_cons rfl ?_ ih⟩
    by_cases z : gt xs (at_ + k) % 5 = 3
    · rw [show (gt xs (at_ + k) % 5 == 3) = true by simpa using z] at t
      exact q_set e7 (q_ifT t (q_expr (ap _ .non rfl (by unfold brinkOf; rw [if_pos z]; rfl)) rfl) rfl)
    · rw [show (gt xs (at_ + k) % 5 == 3) = false by simpa using z] at t
      obtain ⟨c0, c1⟩ := mod_b (gt xs (at_ + k) / 25) (show 0 < b by omega)
      obtain ⟨d0, d1⟩ := mod_b (gt xs (at_ + k) / 5) (show 0 < m + 1 by omega)
      have v := v_lowest c0 (by omega) b1 (by omega) (S ++ [bl_ k (brinkOf xs at_ b m)])
      have et : dTup (dCons (dBin oMod (dBin oDiv (dVar 7) (dC (.int 5))) (dBin oPlus (dVar 4) (dC (.int 1)))) (dCons (dFn 2 O__law_lowest (dCons (dBin oMod (dCall oInt1 (dCons (dBin oDiv (dVar 7) (dC (.int 25))) (dNil))) (dVar 3)) (dCons (dVar 3) (dNil)))) (dNil))) (brE xs at_ n b m S.length (some (.int (k : Nat))) (some (.int (gt xs (at_ + k))))) (S ++ [bl_ k (brinkOf xs at_ b m)]) = some (.ok (.tup [.int (gt xs (at_ + k) / 5 % (m + 1)), pr (lowP (gt xs (at_ + k) / 25 % b) b) (lowQ (gt xs (at_ + k) / 25 % b) b)]) (S ++ [bl_ k (brinkOf xs at_ b m)])) :=
        x_tup (y_cons (x_bin (x_bin rfl rfl (o_divI (by decide) (by decide) _)) (x_bin rfl rfl rfl) (o_mod (by omega) _)) (y_cons (x_f2 (x_bin (x_c1 (x_bin rfl rfl (o_divI (by decide) (by decide) _)) rfl) rfl (o_mod (by omega) _)) rfl v) y_nil)) rfl
      have el : (sSeq (sExpr (dApp (dVar 5) (dTup (dCons (dBin oMod (dBin oDiv (dVar 7) (dC (.int 5))) (dBin oPlus (dVar 4) (dC (.int 1)))) (dCons (dFn 2 O__law_lowest (dCons (dBin oMod (dCall oInt1 (dCons (dBin oDiv (dVar 7) (dC (.int 25))) (dNil))) (dVar 3)) (dCons (dVar 3) (dNil)))) (dNil)))))) (sNil)) (brE xs at_ n b m S.length (some (.int (k : Nat))) (some (.int (gt xs (at_ + k))))) (S ++ [bl_ k (brinkOf xs at_ b m)]) = some (.nx (brE xs at_ n b m S.length (some (.int (k : Nat))) (some (.int (gt xs (at_ + k))))) (S ++ [bl_ (k + 1) (brinkOf xs at_ b m)])) := q_expr (ap _ _ et (by
        unfold brinkOf
        rw [if_neg z]
        show _ = D.tup [.int (((gt xs (at_ + k) / 5 % (m + 1)).toNat : Nat) : Int), pr _ _]
        rw [Int.toNat_of_nonneg d0])) rfl
      exact q_set e7 (p_ifE t el rfl)
theorem closed_bl (n : Nat) (f : Nat → Option (Nat × Int × Int)) : closeds (bl_ n f) = true := by
  rw [closeds_all]
  refine List.all_eq_true.mpr fun x hx => ?_
  obtain ⟨i, _, rfl⟩ := List.mem_map.mp hx
  cases f i <;> rfl
theorem v_brinks (b1 : 1 ≤ b) (b2 : b ≤ 60) {m : Int} (m1 : 0 ≤ m) {at_ : Nat} (hl : at_ + n ≤ xs.length) (hn : n ≤ 24) (S : Store) : O__law_brinks [.lst (xs.map .int), .int (at_ : Nat), .int (n : Nat), .int b, .int m] S = some (.ok (.tup (bl_ n (brinkOf xs at_ b m))) S) := by
  obtain ⟨q6, q7, e⟩ := br_loop (xs := xs) b1 b2 m1 hl hn S ((List.range' 0 n).map fun i => D.int (i : Nat)) n 0 none none (by omega)
  rw [Nat.zero_add] at e
  have cl : closed (.tup (bl_ n (brinkOf xs at_ b m))) = true := by simp only [closed, closed_bl]
  refine fn_rt (S1 := S ++ [bl_ n (brinkOf xs at_ b m)]) ?_ (by simp) cl
  simp only [D__law_brinks]
  rw [show startD ["_law_numbers_here", "_law_at", "_law_size", "_law_bottom", "_law_many", "_law_brinks_here", "_law_i", "_law_code"] [.lst (xs.map .int), .int (at_ : Nat), .int (n : Nat), .int b, .int m] = [some (.lst (xs.map .int)), some (.int (at_ : Nat)), some (.int (n : Nat)), some (.int b), some (.int m), none, none, none] from rfl]
  have rg : dRange1 (dVar 2) (brE xs at_ n b m S.length none none) (S ++ [[]]) = some (.ok ((List.range' 0 n).map fun i => D.int (i : Nat)) none (S ++ [[]])) := by
    rw [range1_of (n := n) rfl (by omega), rgD_map, List.range_eq_range']
  refine q_set (d := .ref S.length) (S1 := S ++ [[]]) rfl (q_nx ((for_of rg).trans e) (q_ret (x_c1 rfl ?_)))
  show ((asList _ (.ref S.length)).map fun xs => Res.ok (.tup xs) _) = _
  simp only [asList, get_last, Option.map_some]
theorem brinkOf_good (b1 : 1 ≤ b) (b2 : b ≤ 60) (m : Int) (at_ i : Nat) : GoodB (brinkOf xs at_ b m i) := fun k p q e => by
  unfold brinkOf at e
  split at e
  · cases e
  · cases e
    obtain ⟨c0, c1⟩ := mod_b (gt xs (at_ + i) / 25) (show 0 < b by omega)
    exact (low_ok c0 b1).die c1 (by omega)
end
end My
set_option Elab.async false
set_option linter.all false
set_option maxRecDepth 100000
set_option maxHeartbeats 1000000
set_option exponentiation.threshold 20000
namespace My
open PySem PySem.Spec PyProof.Rows L2 PD
/-! ### the law's share of the dice, and the words again -/
section
variable {b : Int}
/-- a mark over the bottom b -/
structure BLow (b : Int) (a : Int) (m : Option (Nat × Int × Int)) : Prop where
  ok : ∀ k p q, m = some (k, p, q) → Low a b p q ∧ 0 ≤ a ∧ a < b
/-- the number of first dice that let one go, for brinks -/
def shareB (b a : Int) (m : Option (Nat × Int × Int)) (t : Nat) : Int := match m with
  | none => b
  | some (k, _, _) => if t < k then b else if t = k then a else 0
theorem low_share {a x y : Int} (h : Low a b x y) (ha : 0 ≤ a) (b1 : 1 ≤ b) : x * (b / y) = a ∧ 0 < y ∧ y ≤ b := by
  have e := h.e
  have y1 := h.y1
  have cop := (quot_pr.mp h.q).2
  have d : y ∣ b := by
    have h1 : y ∣ x * b := by rw [e]; exact Int.dvd_mul_left ..
    have t2 : y.natAbs ∣ x.natAbs * b.natAbs := by rw [← Int.natAbs_mul]; exact Int.natAbs_dvd_natAbs.mpr h1
    exact Int.natAbs_dvd_natAbs.mp (Nat.Coprime.dvd_of_dvd_mul_left (by rw [Nat.Coprime, Nat.gcd_comm]; exact cop) t2)
  obtain ⟨k, hk⟩ := d
  have e2 : b / y = k := by rw [hk]; exact Int.mul_ediv_cancel_left _ (by omega)
  refine ⟨?_, by omega, h.yb⟩
  rw [e2]
  rw [hk] at e
  have : x * k * y = a * y := by rw [Int.mul_assoc, Int.mul_comm k y]; exact e
  exact Int.eq_of_mul_eq_mul_right (by omega) this
theorem sh_st (a b c d : D) : startD ["_law_manner", "_law_mark", "_law_moment", "_law_bottom", "_law_share_here"] [a, b, c, d] = [some a, some b, some c, some d, none] := rfl
theorem share_mul {a x y : Int} (b1 : 1 ≤ b) (b2 : b < 200) (h : Low a b x y) (ha : 0 ≤ a) (ha2 : a ≤ b) {f g u : Den} {ρ : EnvD} {S : Store} (hf : f ρ S = some (.ok (.int x) S)) (hg : g ρ S = some (.ok (.int y) S)) (hu : u ρ S = some (.ok (.int b) S)) : dBin oMul f (dBin oDiv u g) ρ S = some (.ok (.int a) S) := by
  obtain ⟨s1, y0, yb⟩ := low_share h ha b1
  have lg : y.natAbs.log2 < 9000 := by
    have := log_small (a := y) (sm60 (by omega) (by omega))
    omega
  have dv0 : 0 ≤ b / y := Int.ediv_nonneg (by omega) (by omega)
  have dv1 : b / y ≤ b := Int.ediv_le_self _ (by omega)
  have xa := h.xa
  have m := x_bin (S := S) hf (x_bin hu hg (o_divI y0 lg S)) (e_mulI (sm60 h.x0 (by omega)) (sm60 dv0 (by omega)) S)
  rwa [s1] at m
theorem v_share_coin (b1 : 1 ≤ b) (b2 : b < 200) {a x y : Int} (h : Low a b x y) (ha : 0 ≤ a) (ha2 : a ≤ b) (t : Nat) (S : Store) : O__law_share [.str "coin", pr x y, .int (t : Nat), .int b] S = some (.ok (.int (b - a)) S) := by
  refine fn_rtS ?_ rfl
  simp only [D__law_share, sh_st]
  have e : dBin oEq (dVar 0) (dC (.str "coin")) [some (.str "coin"), some (pr x y), some (.int (t : Nat)), some (.int b), none] S = some (.ok (.bl true) S) := x_bin rfl rfl (o_eqS strCoin strCoin S)
  have m := share_mul (ρ := [some (.str "coin"), some (pr x y), some (.int (t : Nat)), some (.int b), none]) (S := S) (f := dBin oIx (dVar 1) (dC (.int 0))) (g := dBin oIx (dVar 1) (dC (.int 1))) (u := dVar 3) b1 b2 h ha ha2 (x_bin rfl rfl (e_ix0 _ _ S)) (x_bin rfl rfl (e_ix1 _ _ _ S)) rfl
  exact q_ifR e (q_ret (x_bin rfl m rfl))
/-- a manner of brinks: go takes the share, stay the rest -/
theorem v_share_brink (b1 : 1 ≤ b) (b2 : b < 200) {a : Int} {mk : Option (Nat × Int × Int)} (h : BLow b a mk) (t : Nat) {s : Str} (so : PyData.strOk s = true) (sc : (s == ("coin" : Str)) = false) {st : Bool} (ss : (s == ("stay" : Str)) = st) (S : Store) :
    O__law_share [.str s, bD mk, .int (t : Nat), .int b] S = some (.ok (.int (if st then b - shareB b a mk t else shareB b a mk t)) S) := by
  refine fn_rtS ?_ rfl
  simp only [D__law_share, sh_st]
  have e : dBin oEq (dVar 0) (dC (.str "coin")) [some (.str s), some (bD mk), some (.int (t : Nat)), some (.int b), none] S = some (.ok (.bl false) S) := by
    rw [← sc]
    exact x_bin rfl rfl (o_eqS so strCoin S)
  have fin : ∀ z : Int, sSeq (sIf (dBin oEq (dVar 0) (dC (.str "stay"))) (sSeq (sRet (dBin oSub (dVar 3) (dVar 4))) (sNil)) (sNil)) (sSeq (sRet (dVar 4)) (sNil)) [some (.str s), some (bD mk), some (.int (t : Nat)), some (.int b), some (.int z)] S = some (.rt (.int (if st then b - z else z)) S) := fun z => by
    have e2 : dBin oEq (dVar 0) (dC (.str "stay")) [some (.str s), some (bD mk), some (.int (t : Nat)), some (.int b), some (.int z)] S = some (.ok (.bl st) S) := by
      rw [← ss]
      exact x_bin rfl rfl (o_eqS so strStay S)
    cases st
    · exact q_ifF e2 (q_ret rfl)
    · exact q_ifR e2 (q_ret (x_bin rfl rfl rfl))
  refine q_ifF e (q_set rfl ?_)
  match mk, h with
  | none, _ => exact q_ifT (x_orT rfl) (q_set rfl rfl) (fin b)
  | some (k, p, q), h =>
    obtain ⟨lo, a0, a1⟩ := h.ok k p q rfl
    have i0 : dBin oIx (dVar 1) (dC (.int 0)) [some (.str s), some (bD (some (k, p, q))), some (.int (t : Nat)), some (.int b), some (.int 0)] S = some (.ok (.int (k : Nat)) S) := x_bin rfl rfl (e_ix0 _ _ S)
    have lt : dBin oLt (dVar 2) (dBin oIx (dVar 1) (dC (.int 0))) [some (.str s), some (bD (some (k, p, q))), some (.int (t : Nat)), some (.int b), some (.int 0)] S = some (.ok (.bl (decide (t < k))) S) := by
      refine (x_bin rfl i0 rfl).trans ?_
      show some (Res.ok (.bl (decide ((t : Int) < (k : Int)))) S) = _
      simp
    have sb : shareB b a (some (k, p, q)) t = if t < k then b else if t = k then a else 0 := rfl
    rw [sb]
    by_cases z : t < k
    · rw [decide_eq_true z] at lt
      rw [if_pos z]
      exact q_ifT (x_orF rfl lt) (q_set rfl rfl) (fin b)
    · rw [decide_eq_false z] at lt
      rw [if_neg z]
      have eq : dBin oEq (dVar 2) (dBin oIx (dVar 1) (dC (.int 0))) [some (.str s), some (bD (some (k, p, q))), some (.int (t : Nat)), some (.int b), some (.int 0)] S = some (.ok (.bl (decide (t = k))) S) := by
        refine (x_bin rfl i0 (o_eqI _ _ S)).trans ?_
        have : (((t : Nat) : Int) == ((k : Nat) : Int)) = decide (t = k) := by
          rw [Bool.eq_iff_iff, beq_iff_eq, decide_eq_true_eq]
          omega
        rw [this]
      by_cases y : t = k
      · rw [decide_eq_true y] at eq
        rw [if_pos y]
        have i1 : dBin oIx (dVar 1) (dC (.int 1)) [some (.str s), some (bD (some (k, p, q))), some (.int (t : Nat)), some (.int b), some (.int 0)] S = some (.ok (pr p q) S) := x_bin rfl rfl (e_ix1 _ _ _ S)
        have m := share_mul (ρ := [some (.str s), some (bD (some (k, p, q))), some (.int (t : Nat)), some (.int b), some (.int 0)]) (S := S) (f := dBin oIx (dBin oIx (dVar 1) (dC (.int 1))) (dC (.int 0))) (g := dBin oIx (dBin oIx (dVar 1) (dC (.int 1))) (dC (.int 1))) (u := dVar 3) b1 b2 lo a0 (by omega) (x_bin i1 rfl (e_ix0 _ _ S)) (x_bin i1 rfl (e_ix1 _ _ _ S)) rfl
        exact p_ifE (x_orF rfl lt) (q_ifT eq (q_set m rfl) rfl) (fin a)
      · rw [decide_eq_false y] at eq
        rw [if_neg y]
        exact p_ifE (x_orF rfl lt) (q_ifF eq rfl) (fin 0)
end
end My
set_option Elab.async false
set_option linter.all false
set_option maxRecDepth 100000
set_option maxHeartbeats 1000000
set_option exponentiation.threshold 20000
namespace My
open PySem PySem.Spec PyProof.Rows L2 PD
/-! ### what the law asks of a way -/
section
variable {n : Nat} {R : List (List Int)} {m : Int} {stay : Nat → Nat → Int → Int → Bool}
structure WayOk (n : Nat) (p k : Nat) (w : List Nat × Bool) : Prop where
  head : ∃ rest, w.1 = p :: rest
  lt : ∀ q ∈ w.1, q < n
  yes : w.2 = true → w.1.length ≤ k
  no : w.2 = false → w.1.length = k + 1
theorem walk_ok (w : WK n R m) : ∀ (ds : List Di) (t p : Nat), p < n → (∀ d ∈ ds, DiOk d) → WayOk n p ds.length (walk n R m stay t p ds)
  | [], t, p, hp, _ => ⟨⟨[], rfl⟩, fun q hq => by rw [List.mem_singleton.mp hq]; exact hp, fun h => (by cases h), fun _ => rfl⟩
  | d :: ds, t, p, hp, hd => by
    have L := leads_toP w hp (hd d List.mem_cons_self).b
    have ih := walk_ok w ds (t + 1) (toP n R m p d.2.2.1 d.2.2.2) L.lt fun z hz => hd z (List.mem_cons_of_mem _ hz)
    have hw : walk n R m stay t p (d :: ds) = if stay p t d.1 d.2.1 then ([p], true) else (p :: (walk n R m stay (t + 1) (toP n R m p d.2.2.1 d.2.2.2) ds).1, (walk n R m stay (t + 1) (toP n R m p d.2.2.1 d.2.2.2) ds).2) := rfl
    rw [hw]
    cases stay p t d.1 d.2.1
    · simp only [Bool.false_eq_true, if_false]
      refine ⟨⟨_, rfl⟩, fun q hq => ?_, fun h => ?_, fun h => ?_⟩
      · rcases List.mem_cons.mp hq with rfl | hq
        · exact hp
        · exact ih.lt q hq
      · have := ih.yes h
        simp
        omega
      · have := ih.no h
        simp
        omega
    · simp only [if_true]
      exact ⟨⟨[], rfl⟩, fun q hq => by rw [List.mem_singleton.mp hq]; exact hp, fun _ => by simp, fun h => (by cases h)⟩
abbrev ilE (tl : D) (n k p : Nat) (r4 : Option D) : EnvD := [some tl, some (.int (n : Nat)), some (.int (k : Nat)), some (.int (p : Nat)), r4]
theorem ne_nat (a b : Nat) : ((((a : Nat) : Int)) == ((b : Nat) : Int)) = decide (a = b) := by
  rw [Bool.eq_iff_iff, beq_iff_eq, decide_eq_true_eq]
  omega
theorem v_is_led {p k : Nat} {w : List Nat × Bool} (h : WayOk n p k w) (S : Store) : O__law_is_led [.tup [.tup (wayD w.1), .bl w.2], .int (n : Nat), .int (k : Nat), .int (p : Nat)] S = some (.ok (.bl true) S) := by
  refine fn_rtS ?_ rfl
  simp only [D__law_is_led]
  generalize ht : D.tup [.tup (wayD w.1), .bl w.2] = tl
  rw [show startD ["_law_told", "_law_size", "_law_many", "_law_place", "_law_one"] [tl, .int (n : Nat), .int (k : Nat), .int (p : Nat)] = ilE tl n k p none from rfl]
  obtain ⟨rest, hr⟩ := h.head
  have i0 : ∀ r, dBin oIx (dVar 0) (dC (.int 0)) (ilE tl n k p r) S = some (.ok (.tup (wayD w.1)) S) := fun r => by
    rw [← ht]
    exact x_bin rfl rfl (e_ix0 _ _ S)
  have i1 : ∀ r, dBin oIx (dVar 0) (dC (.int 1)) (ilE tl n k p r) S = some (.ok (.bl w.2) S) := fun r => by
    rw [← ht]
    exact x_bin rfl rfl (e_ix1 _ _ _ S)
  have ln : ∀ r, dCall oLen (dCons (dBin oIx (dVar 0) (dC (.int 0))) (dNil)) (ilE tl n k p r) S = some (.ok (.int ((w.1.length : Nat) : Int)) S) := fun r => x_c1 (i0 r) (by rw [e_lenT]; simp [wayD])
  have le : w.1.length ≤ k + 1 := by
    cases e : w.2
    · rw [h.no e]; omega
    · have := h.yes e; omega
  have l1 : 1 ≤ w.1.length := by rw [hr]; simp
  have c1 : dOr (dNot (dTru (dIsi "tuple" (dVar 0)))) (dOr (dBin oNe (dCall oLen (dCons (dVar 0) (dNil))) (dC (.int 2))) (dNot (dTru (dIsi "tuple" (dBin oIx (dVar 0) (dC (.int 0))))))) (ilE tl n k p none) S = some (.ok (.bl false) S) := by
    have t0 : dTru (dIsi "tuple" (dVar 0)) (ilE tl n k p none) S = some (.ok (.bl true) S) := by rw [← ht]; rfl
    have t1 : dBin oNe (dCall oLen (dCons (dVar 0) (dNil))) (dC (.int 2)) (ilE tl n k p none) S = some (.ok (.bl false) S) := by
      rw [← ht]
      exact x_bin (x_c1 rfl rfl) rfl (o_neI _ _ S)
    have t2 : dTru (dIsi "tuple" (dBin oIx (dVar 0) (dC (.int 0)))) (ilE tl n k p none) S = some (.ok (.bl true) S) := by
      refine x_tru (d := .bl true) ?_ rfl
      unfold dIsi
      rw [i0]
      rfl
    exact x_orF (x_not (p := true) t0) (x_orF t1 (x_not (p := true) t2))
  have c2 : dOr (dBin oEq (dCall oLen (dCons (dBin oIx (dVar 0) (dC (.int 0))) (dNil))) (dC (.int 0))) (dOr (dBin oGt (dCall oLen (dCons (dBin oIx (dVar 0) (dC (.int 0))) (dNil))) (dBin oPlus (dVar 2) (dC (.int 1)))) (dBin oNe (dBin oIx (dBin oIx (dVar 0) (dC (.int 0))) (dC (.int 0))) (dVar 3))) (ilE tl n k p none) S = some (.ok (.bl false) S) := by
    have t0 : dBin oEq (dCall oLen (dCons (dBin oIx (dVar 0) (dC (.int 0))) (dNil))) (dC (.int 0)) (ilE tl n k p none) S = some (.ok (.bl false) S) := by
      refine (x_bin (ln _) rfl (o_eqI _ _ S)).trans ?_
      have : ((w.1.length : Int) == 0) = false := by simp; intro z; rw [z] at l1; simp at l1
      rw [this]
    have t1 : dBin oGt (dCall oLen (dCons (dBin oIx (dVar 0) (dC (.int 0))) (dNil))) (dBin oPlus (dVar 2) (dC (.int 1))) (ilE tl n k p none) S = some (.ok (.bl false) S) := by
      refine (x_bin (ln _) (x_bin rfl rfl rfl) (o_gtI _ _ S)).trans ?_
      rw [decide_eq_false (by omega)]
    have t2 : dBin oNe (dBin oIx (dBin oIx (dVar 0) (dC (.int 0))) (dC (.int 0))) (dVar 3) (ilE tl n k p none) S = some (.ok (.bl false) S) := by
      have h0 : (wayD w.1)[0]? = some (.int (p : Nat)) := by rw [hr]; rfl
      refine (x_bin (x_bin (i0 _) rfl (ixTup (i := 0) h0 S)) rfl (o_neI _ _ S)).trans ?_
      rw [beq_self_eq_true]
      rfl
    exact x_orF t0 (x_orF t1 t2)
  refine q_ifF c1 (q_ifF c2 ?_)
  refine q_forI (P := fun ρ => ∃ r, ρ = ilE tl n k p r) (items := wayD w.1) (x_items (i0 none) rfl) ⟨none, rfl⟩ ?_ ?_
  · rintro x hx ρ ⟨r, rfl⟩
    obtain ⟨q, hq, rfl⟩ := List.mem_map.mp hx
    have ql := h.lt q hq
    refine ⟨ilE tl n k p (some (.int (q : Nat))), ilE tl n k p (some (.int (q : Nat))), rfl, ?_, _, rfl⟩
    have a : dOr (dNot (dTru (dIsi "int" (dVar 4)))) (dOr (dTru (dIsi "bool" (dVar 4))) (dOr (dBin oLt (dVar 4) (dC (.int 0))) (dBin oGe (dVar 4) (dVar 1)))) (ilE tl n k p (some (.int (q : Nat)))) S = some (.ok (.bl false) S) := by
      have t1 : dBin oLt (dVar 4) (dC (.int 0)) (ilE tl n k p (some (.int (q : Nat)))) S = some (.ok (.bl false) S) := by
        refine (x_bin rfl rfl (o_ltI _ _ S)).trans ?_
        rw [decide_eq_false (by omega)]
      have t2 : dBin oGe (dVar 4) (dVar 1) (ilE tl n k p (some (.int (q : Nat)))) S = some (.ok (.bl false) S) := by
        refine (x_bin rfl rfl (o_geI _ _ S)).trans ?_
        rw [decide_eq_false (by omega)]
      exact x_orF (x_not (p := true) rfl) (x_orF rfl (x_orF t1 t2))
    exact q_ifF a rfl
  rintro ρ ⟨r, rfl⟩
  have b1 : ∀ c : Bool, dIsB c (dBin oIx (dVar 0) (dC (.int 1))) (ilE tl n k p r) S = some (.ok (.bl (w.2 == c)) S) := fun c => by
    unfold dIsB
    rw [i1]
    rfl
  cases e : w.2
  · have b1' := b1
    simp only [e] at b1'
    have nl := h.no e
    have t : dBin oEq (dCall oLen (dCons (dBin oIx (dVar 0) (dC (.int 0))) (dNil))) (dBin oPlus (dVar 2) (dC (.int 1))) (ilE tl n k p r) S = some (.ok (.bl true) S) := by
      refine (x_bin (ln _) (x_bin (b := .int 1) rfl rfl rfl) (o_eqI _ _ S)).trans ?_
      have : (((w.1.length : Nat) : Int) == (k : Int) + 1) = true := by
        rw [beq_iff_eq, nl]
        omega
      rw [this]
    exact q_ifF (b1' true) (q_ret (x_andT (b1' false) t))
  · have b1' := b1
    simp only [e] at b1'
    have nl := h.yes e
    have t : dBin oLe (dCall oLen (dCons (dBin oIx (dVar 0) (dC (.int 0))) (dNil))) (dVar 2) (ilE tl n k p r) S = some (.ok (.bl true) S) := by
      refine (x_bin (ln _) rfl (o_leI _ _ S)).trans ?_
      rw [decide_eq_true (by omega)]
    exact q_ifR (b1' true) (q_ret t)
end
end My
set_option Elab.async false
set_option linter.all false
set_option maxRecDepth 100000
set_option maxHeartbeats 1000000
set_option exponentiation.threshold 20000
namespace My
open PySem PySem.Spec PyProof.Rows L2 PD
/-! ### the law's web -/
abbrev weE (xs : List Int) (at_ n : Nat) (b : Int) (N : Nat) (part : Int) (r6 r7 r8 r9 r10 : Option D) : EnvD := [some (.lst (xs.map .int)), some (.int (at_ : Nat)), some (.int (n : Nat)), some (.int b), some (.ref N), some (.int part), r6, r7, r8, r9, r10, none, none, none]
noncomputable abbrev fillB : SDen := (sSeq (sStore (dBin oPlus (dBin oIx (dVar 7) (dBin oMod (dCall oInt1 (dCons (dVar 8) (dNil))) (dVar 2))) (dC (.int 1))) (dVar 7) (dBin oMod (dCall oInt1 (dCons (dVar 8) (dNil))) (dVar 2))) (sSeq (sSet 8 (dBin oDiv (dVar 8) (dVar 2))) (sNil)))
noncomputable abbrev gcdB_ : SDen := (sSeq (sSet 5 (dFn 2 O__law_gcd (dCons (dVar 5) (dCons (dVar 10) (dNil))))) (sNil))
structure RowK (n : Nat) (k : Int) (r : List Int) : Prop where
  len : r.length = n
  nn : ∀ i < n, 0 ≤ gt r i ∧ gt r i ≤ k
  sum : (sI n fun i => gt r i) = k
theorem RowK.zero (n : Nat) : RowK n 0 (List.replicate n 0) := ⟨by simp, fun i _ => by rw [gt_rep]; omega, by
  rw [sI_congr (g := fun _ => 0) fun i _ => gt_rep _ _, sI_zero]⟩
theorem RowK.inc {n : Nat} {k : Int} {r : List Int} (h : RowK n k r) {j : Nat} (hj : j < n) : RowK n (k + 1) (r.set j (gt r j + 1)) := by
  have e : ∀ i < n, gt (r.set j (gt r j + 1)) i = gt r i + if i = j then 1 else 0 := fun i hi => by
    rw [gt_set (by rw [h.len]; exact hj)]
    by_cases z : i = j
    · subst z; simp
    · simp [z]
  refine ⟨by rw [List.length_set, h.len], fun i hi => ?_, ?_⟩
  · rw [e i hi]
    have := h.nn i hi
    split <;> omega
  · rw [sI_congr e, sI_add, h.sum, sI_one n j hj]
section
variable {xs : List Int} {at_ n : Nat} {b : Int} {S : Store}
theorem fill_loop (n1 : 1 ≤ n) (n8 : n ≤ 8) {N : Nat} (part : Int) (r6 r10 : Option D) (T : Store) (all : List D) : ∀ (j k : Nat) (code : Int) (row : List Int) (r9 : Option D), k + j ≤ 200 → 0 ≤ code → RowK n (k : Nat) row →
    ∃ (code' : Int) (row' : List Int) (q9 : Option D), RowK n ((k + j : Nat) : Int) row' ∧ forLoop none all (tName 9) fillB ((List.range' k j).map fun i => D.int (i : Nat)) (weE xs at_ n b N part r6 (some (.ref T.length)) (some (.int code)) r9 r10) (T ++ [row.map .int]) = some (.nx (weE xs at_ n b N part r6 (some (.ref T.length)) (some (.int code')) q9 r10) (T ++ [row'.map .int]))
  | 0, k, code, row, r9, _, _, h => ⟨code, row, r9, h, rfl⟩
  | j + 1, k, code, row, r9, hk, hc, h => by
    have pn : (0 : Int) < (n : Int) := by omega
    obtain ⟨m0, m1⟩ := mod_b code pn
    obtain ⟨q, hq⟩ := Int.eq_ofNat_of_zero_le m0
    have qn : q < n := by omega
    have h' := h.inc qn
    have im : ∀ V, dBin oMod (dCall oInt1 (dCons (dVar 8) (dNil))) (dVar 2) (weE xs at_ n b N part r6 (some (.ref T.length)) (some (.int code)) (some (.int (k : Nat))) r10) V = some (.ok (.int (q : Nat)) V) := fun V => by
      rw [← hq]
      exact x_bin (x_c1 rfl rfl) rfl (o_mod pn V)
    have rd : oIx (.ref T.length) (.int (q : Nat)) (T ++ [row.map .int]) = some (.ok (.int (gt row q)) (T ++ [row.map .int])) := ixAny (show asSeq (T ++ [row.map .int]) (.ref T.length) = _ from get_last T _) (by rw [h.len]; exact qn)
    have stv := st_int (S := T) (xs := row) (z := gt row q + 1) (j := q) (ρ := weE xs at_ n b N part r6 (some (.ref T.length)) (some (.int code)) (some (.int (k : Nat))) r10) (fe := dBin oPlus (dBin oIx (dVar 7) (dBin oMod (dCall oInt1 (dCons (dVar 8) (dNil))) (dVar 2))) (dC (.int 1))) (fo := dVar 7) (fi := dBin oMod (dCall oInt1 (dCons (dVar 8) (dNil))) (dVar 2)) (x_bin (x_bin rfl (im _) rd) rfl rfl) rfl (im _) (by rw [h.len]; exact qn)
    have lg : ((n : Nat) : Int).natAbs.log2 < 9000 := by
      have := log_small (a := ((n : Nat) : Int)) (sm60 (by omega) (by omega))
      omega
    obtain ⟨code', row', q9, i1, e2⟩ := fill_loop n1 n8 part r6 r10 T all j (k + 1) (code / n) (row.set q (gt row q + 1)) (some (.int (k : Nat))) (by omega) (Int.ediv_nonneg hc (by omega)) (by rw [Int.natCast_add]; exact h')
    rw [show k + 1 + j = k + (j + 1) by omega] at i1
    exact ⟨code', row', q9, i1, loopS_cons rfl (q_nx stv (q_set (x_bin rfl rfl (o_divI pn lg _)) rfl)) e2⟩
theorem gcd_loop {N : Nat} {K : Nat} (r6 r7 r8 r9 : Option D) (V : Store) (all : List D) (hV : V[K]? = some all) : ∀ (row : List Int) (part : Int) (r10 : Option D), 1 ≤ part → (∀ x ∈ row, 0 ≤ x ∧ x < 200) →
    ∃ (part' : Int) (q10 : Option D), 1 ≤ part' ∧ part' ∣ part ∧ (∀ x ∈ row, part' ∣ x) ∧ forLoop (some K) all (tName 10) gcdB_ (row.map .int) (weE xs at_ n b N part r6 r7 r8 r9 r10) V = some (.nx (weE xs at_ n b N part' r6 r7 r8 r9 q10) V)
  | [], part, r10, h1, _ => ⟨part, r10, h1, Int.dvd_refl _, (fun x hx => by simp at hx), rfl⟩
  | x :: row, part, r10, h1, hx => by
    have hx0 := hx x List.mem_cons_self
    have g1 : 1 ≤ (Int.gcd part x : Int) := by
      have : Int.gcd part x ≠ 0 := fun z => by have := (Int.gcd_eq_zero_iff.mp z).1; omega
      omega
    have v := v_lgcd (a := part) (b := x) (by omega) hx0.1 hx0.2 V
    obtain ⟨part', q10, i1, i2, i3, e⟩ := gcd_loop r6 r7 r8 r9 V all hV row (Int.gcd part x : Int) (some (.int x)) g1 (fun y hy => hx y (List.mem_cons_of_mem _ hy))
    refine ⟨part', q10, i1, Int.dvd_trans i2 (Int.gcd_dvd_left ..), fun y hy => ?_, loop_consW hV rfl (q_set (x_f2 (f1 := dVar 5) (f2 := dVar 10) rfl rfl v) rfl) e⟩
    rcases List.mem_cons.mp hy with rfl | hy
    · exact Int.dvd_trans i2 (Int.gcd_dvd_right ..)
    · exact i3 y hy
end
end My
set_option Elab.async false
set_option linter.all false
set_option maxRecDepth 100000
set_option maxHeartbeats 1000000
set_option exponentiation.threshold 20000
namespace My
open PySem PySem.Spec PyProof.Rows L2 PD
section
variable {xs : List Int} {at_ n bn : Nat} {S : Store}
noncomputable abbrev webB : SDen := (sSeq (sSet 7 (dLcM [11] (dRange1 (dVar 2)) (.one 11) (dYes) (dC (.int 0)))) (sSeq (sSet 8 (dBin oIx (dVar 0) (dBin oPlus (dVar 1) (dVar 6)))) (sSeq (sFor (dRange1 (dVar 3)) (tName 9) fillB) (sSeq (sExpr (dApp (dVar 4) (dVar 7))) (sSeq (sFor (dItems (dVar 7)) (tName 10) gcdB_) (sNil))))))
structure WInv (n bn i : Nat) (Ns : List (List Int)) (part : Int) : Prop where
  len : Ns.length = i
  row : ∀ r ∈ Ns, RowK n (bn : Nat) r
  p1 : 1 ≤ part
  pb : part ∣ (bn : Int)
  pd : ∀ r ∈ Ns, ∀ x ∈ r, part ∣ x
theorem RowK.mem {n : Nat} {k : Int} {r : List Int} (h : RowK n k r) {x : Int} (hx : x ∈ r) : 0 ≤ x ∧ x ≤ k := by
  obtain ⟨i, hi, rfl⟩ := List.getElem_of_mem hx
  have := h.nn i (by rw [← h.len]; exact hi)
  rwa [gt_get hi] at this
theorem web_turn (hx : ∀ x ∈ xs, 0 ≤ x ∧ x < 100000007) (n1 : 1 ≤ n) (n8 : n ≤ 8) (b1 : 1 ≤ bn) (b2 : bn ≤ 60) (hl : at_ + n ≤ xs.length) {i : Nat} (hi : i < n) {Ns : List (List Int)} {part : Int} (h : WInv n bn i Ns part) (r7 r8 r9 r10 : Option D) :
    ∃ (row : List Int) (part' : Int) (q7 q8 q9 q10 : Option D), WInv n bn (i + 1) (Ns ++ [row]) part' ∧ webB (weE xs at_ n (bn : Nat) S.length part (some (.int (i : Nat))) r7 r8 r9 r10) (ST S Ns) = some (.nx (weE xs at_ n (bn : Nat) S.length part' (some (.int (i : Nat))) q7 q8 q9 q10) (ST S (Ns ++ [row]))) := by
  have lz : dLcM [11] (dRange1 (dVar 2)) (.one 11) (dYes) (dC (.int 0)) (weE xs at_ n (bn : Nat) S.length part (some (.int (i : Nat))) r7 r8 r9 r10) (ST S Ns) = some (.ok (.ref (ST S Ns).length) (ST S Ns ++ [(List.replicate n 0).map .int])) := by
    have e := lcM_range (own := [11]) (t := .one 11) (elt := dC (.int 0)) (f := dRange1 (dVar 2)) (ρ := weE xs at_ n (bn : Nat) S.length part (some (.int (i : Nat))) r7 r8 r9 r10) (S := ST S Ns) n (fun _ => D.int 0) (fun k => (weE xs at_ n (bn : Nat) S.length part (some (.int (i : Nat))) r7 r8 r9 r10).set 11 (some (.int (k : Nat)))) (range1_of (n := n) rfl (by omega)) (fun _ _ => rfl) (fun _ _ _ => rfl) (by omega)
    have z : (List.range n).map (fun _ => D.int 0) = (List.replicate n 0).map .int := by rw [List.map_const', List.length_range, List.map_replicate]
    rw [e, z]
  have cd : ∀ V, dBin oIx (dVar 0) (dBin oPlus (dVar 1) (dVar 6)) (weE xs at_ n (bn : Nat) S.length part (some (.int (i : Nat))) (some (.ref (ST S Ns).length)) r8 r9 r10) V = some (.ok (.int (gt xs (at_ + i))) V) := fun V => x_atI (n := i) rfl rfl rfl (by omega)
  have c0 := (gt_nn hx (show at_ + i < xs.length by omega)).1
  obtain ⟨code', row, q9, hr, e1⟩ := fill_loop (xs := xs) (at_ := at_) (b := (bn : Nat)) (N := S.length) n1 n8 part (some (.int (i : Nat))) r10 (ST S Ns) ((List.range' 0 bn).map fun i => D.int (i : Nat)) bn 0 (gt xs (at_ + i)) (List.replicate n 0) r9 (by omega) c0 (by exact RowK.zero n)
  rw [Nat.zero_add] at hr
  have rg : ∀ V, dRange1 (dVar 3) (weE xs at_ n (bn : Nat) S.length part (some (.int (i : Nat))) (some (.ref (ST S Ns).length)) (some (.int (gt xs (at_ + i)))) r9 r10) V = some (.ok ((List.range' 0 bn).map fun i => D.int (i : Nat)) none V) := fun V => by
    rw [range1_of (n := bn) rfl (by omega), rgD_map, List.range_eq_range']
  have ap := p_app (ρ := weE xs at_ n (bn : Nat) S.length part (some (.int (i : Nat))) (some (.ref (ST S Ns).length)) (some (.int code')) q9 r10) (S := ST S Ns ++ [row.map .int]) (S1 := ST S Ns ++ [row.map .int]) (S2 := ST S Ns ++ [row.map .int]) (fo := dVar 4) (fe := dVar 7) (n := S.length) (d := .ref (ST S Ns).length) rfl rfl (ST_rows S _ Ns) (by simp [refs, h.len]; omega)
  rw [ST_snoc] at ap
  have nl := h.len
  have KV : (ST S (Ns ++ [row]))[(ST S Ns).length]? = some (row.map D.int) := by
    have := ST_nums0 S (Ns ++ [row]) i (by simp [nl])
    rw [ST_len, nl]
    have g : (Ns ++ [row]).getD i [] = row := by
      rw [← nl]
      simp [List.getD]
    rw [this, g]
  obtain ⟨part', q10, i1, i2, i3, e2⟩ := gcd_loop (xs := xs) (at_ := at_) (n := n) (b := (bn : Nat)) (N := S.length) (K := (ST S Ns).length) (some (.int (i : Nat))) (some (.ref (ST S Ns).length)) (some (.int code')) q9 (ST S (Ns ++ [row])) (row.map .int) KV row part r10 h.p1 (fun x hx => by have := hr.mem hx; omega)
  have wk : dItems (dVar 7) (weE xs at_ n (bn : Nat) S.length part (some (.int (i : Nat))) (some (.ref (ST S Ns).length)) (some (.int code')) q9 r10) (ST S (Ns ++ [row])) = some (.ok (row.map .int) (some (ST S Ns).length) (ST S (Ns ++ [row]))) := x_items (d := .ref (ST S Ns).length) rfl (by simp only [asWalk, KV]; rfl)
  refine ⟨row, part', some (.ref (ST S Ns).length), some (.int code'), q9, q10, ⟨by simp [nl], fun r hr' => ?_, i1, Int.dvd_trans i2 h.pb, fun r hr' x hx' => ?_⟩, ?_⟩
  · rcases List.mem_append.mp hr' with z | z
    · exact h.row r z
    · rw [List.mem_singleton.mp z]; exact hr
  · rcases List.mem_append.mp hr' with z | z
    · exact Int.dvd_trans i2 (h.pd r z x hx')
    · rw [List.mem_singleton.mp z] at hx'; exact i3 x hx'
  · exact q_set lz (q_set (cd _) (q_nx ((for_of (rg _)).trans e1) (q_expr ap (q_nx ((for_of wk).trans e2) rfl))))
theorem web_loop (hx : ∀ x ∈ xs, 0 ≤ x ∧ x < 100000007) (n1 : 1 ≤ n) (n8 : n ≤ 8) (b1 : 1 ≤ bn) (b2 : bn ≤ 60) (hl : at_ + n ≤ xs.length) (all : List D) : ∀ (j i : Nat) (Ns : List (List Int)) (part : Int) (r6 r7 r8 r9 r10 : Option D), i + j ≤ n → WInv n bn i Ns part →
    ∃ (Ns' : List (List Int)) (part' : Int) (q6 q7 q8 q9 q10 : Option D), WInv n bn (i + j) Ns' part' ∧ forLoop none all (tName 6) webB ((List.range' i j).map fun i => D.int (i : Nat)) (weE xs at_ n (bn : Nat) S.length part r6 r7 r8 r9 r10) (ST S Ns) = some (.nx (weE xs at_ n (bn : Nat) S.length part' q6 q7 q8 q9 q10) (ST S Ns'))
  | 0, i, Ns, part, r6, r7, r8, r9, r10, _, h => ⟨Ns, part, r6, r7, r8, r9, r10, h, rfl⟩
  | j + 1, i, Ns, part, r6, r7, r8, r9, r10, hi, h => by
    obtain ⟨row, part1, q7, q8, q9, q10, h1, e1⟩ := web_turn (S := S) hx n1 n8 b1 b2 hl (show i < n by omega) h r7 r8 r9 r10
    obtain ⟨Ns', part', y6, y7, y8, y9, y10, h2, e2⟩ := web_loop hx n1 n8 b1 b2 hl all j (i + 1) (Ns ++ [row]) part1 (some (.int (i : Nat))) q7 q8 q9 q10 (by omega) h1
    rw [show i + 1 + j = i + (j + 1) by omega] at h2
    exact ⟨Ns', part', y6, y7, y8, y9, y10, h2, loopS_cons rfl e1 e2⟩
end
end My
set_option Elab.async false
set_option linter.all false
set_option maxRecDepth 100000
set_option maxHeartbeats 1000000
set_option exponentiation.threshold 20000
namespace My
open PySem PySem.Spec PyProof.Rows L2 PD
section
variable {xs : List Int} {at_ n bn : Nat} {S : Store}
def lowRows (part : Int) (Ns : List (List Int)) : List (List Int) := Ns.map fun r => r.map fun x => x / part
theorem lowRows_at {part : Int} {Ns : List (List Int)} {i j : Nat} (hi : i < Ns.length) (hj : j < (Ns.getD i []).length) : at2 (lowRows part Ns) i j = at2 Ns i j / part := by
  have e : (Ns.map fun r => r.map fun x => x / part).getD i [] = (Ns.getD i []).map fun x => x / part := by
    simp [List.getD, List.getElem?_eq_getElem hi]
  unfold at2 lowRows
  rw [e]
  have hj2 : j < ((Ns.getD i []).map fun x => x / part).length := by rw [List.length_map]; exact hj
  rw [gt_get hj2, gt_get hj, List.getElem_map]
theorem WInv.wk {part : Int} {Ns : List (List Int)} (n1 : 1 ≤ n) (n8 : n ≤ 8) (b1 : 1 ≤ bn) (b2 : bn ≤ 60) (h : WInv n bn n Ns part) : WK n (lowRows part Ns) ((bn : Int) / part) ∧ (bn : Int) = part * ((bn : Int) / part) := by
  have p1 := h.p1
  have eb : part * ((bn : Int) / part) = bn := Int.mul_ediv_cancel' h.pb
  have getm : ∀ i < n, Ns.getD i [] ∈ Ns := fun i hi => by
    have : i < Ns.length := by rw [h.len]; exact hi
    rw [List.getD, List.getElem?_eq_getElem this]
    exact List.getElem_mem this
  have rk : ∀ i < n, RowK n (bn : Nat) (Ns.getD i []) := fun i hi => h.row _ (getm i hi)
  have at_ : ∀ i < n, ∀ j < n, at2 (lowRows part Ns) i j = at2 Ns i j / part := fun i hi j hj => lowRows_at (by rw [h.len]; exact hi) (by rw [(rk i hi).len]; exact hj)
  have dv : ∀ i < n, ∀ j < n, part ∣ at2 Ns i j := fun i hi j hj => by
    have jl : j < (Ns.getD i []).length := by rw [(rk i hi).len]; exact hj
    have : at2 Ns i j ∈ Ns.getD i [] := by
      show gt (Ns.getD i []) j ∈ _
      rw [gt_get jl]
      exact List.getElem_mem jl
    exact h.pd _ (getm i hi) _ this
  have sums : ∀ i < n, part * (sI n fun j => at2 (lowRows part Ns) i j) = bn := fun i hi => by
    rw [← sI_mulL, ← (rk i hi).sum]
    exact sI_congr fun j hj => by rw [at_ i hi j hj]; exact Int.mul_ediv_cancel' (dv i hi j hj)
  have m1 : 1 ≤ (bn : Int) / part := by
    apply Int.not_lt.mp
    intro z
    have := Int.mul_nonpos_of_nonneg_of_nonpos (show 0 ≤ part by omega) (show (bn : Int) / part ≤ 0 by omega)
    omega
  refine ⟨⟨n1, n8, by simp [lowRows, h.len], fun i hi => ?_, fun i hi j hj => ?_, fun i hi => ?_, m1, ?_⟩, eb.symm⟩
  · have : (lowRows part Ns).getD i [] = (Ns.getD i []).map fun x => x / part := by
      have : i < Ns.length := by rw [h.len]; exact hi
      simp [lowRows, List.getD, List.getElem?_eq_getElem this]
    rw [this, List.length_map, (rk i hi).len]
  · rw [at_ i hi j hj]
    have r : 0 ≤ at2 Ns i j ∧ at2 Ns i j ≤ (bn : Nat) := (rk i hi).nn j hj
    have d0 : 0 ≤ at2 Ns i j / part := Int.ediv_nonneg r.1 (by omega)
    have d1 : at2 Ns i j / part ≤ at2 Ns i j := Int.ediv_le_self _ r.1
    omega
  · have := sums i hi
    exact Int.eq_of_mul_eq_mul_left (show part ≠ 0 by omega) (this.trans eb.symm)
  · have := Int.ediv_le_self part (show 0 ≤ (bn : Int) by omega)
    omega
def rowH (part : Int) (Ns : List (List Int)) (k0 : Nat) : D → D
  | .ref k => .tup (((Ns.getD (k - k0) []).map fun x => x / part).map .int)
  | _ => .non
theorem v_lweb (hx : ∀ x ∈ xs, 0 ≤ x ∧ x < 100000007) (n1 : 1 ≤ n) (n8 : n ≤ 8) (b1 : 1 ≤ bn) (b2 : bn ≤ 60) (hl : at_ + n ≤ xs.length) (S : Store) :
    ∃ (R : List (List Int)) (m part : Int), WK n R m ∧ 1 ≤ part ∧ (bn : Int) = part * m ∧ O__law_web [.lst (xs.map .int), .int (at_ : Nat), .int (n : Nat), .int (bn : Nat)] S = some (.ok (wb R m) S) := by
  obtain ⟨Ns, part, q6, q7, q8, q9, q10, h, e⟩ := web_loop (S := S) hx n1 n8 b1 b2 hl ((List.range' 0 n).map fun i => D.int (i : Nat)) n 0 [] (bn : Nat) none none none none none (by omega) ⟨rfl, (fun r hr => by simp at hr), by omega, Int.dvd_refl _, (fun r hr => by simp at hr)⟩
  rw [Nat.zero_add] at h
  obtain ⟨w, eb⟩ := h.wk n1 n8 b1 b2
  have p1 := h.p1
  have nl := h.len
  have pb : part ≤ (bn : Int) := Int.le_of_dvd (by omega) h.pb
  have lg : part.natAbs.log2 < 9000 := by
    have := log_small (a := part) (sm60 (by omega) (by omega))
    omega
  refine ⟨lowRows part Ns, (bn : Int) / part, part, w, p1, eb, ?_⟩
  have mp : (refs S.length Ns.length).map (rowH part Ns (S.length + 1)) = (lowRows part Ns).map fun r => D.tup (r.map .int) := by
    unfold refs lowRows
    rw [List.map_map, List.map_map]
    refine List.ext_getElem (by simp) fun i h1 h2 => ?_
    simp only [List.length_map, List.length_range] at h1
    simp only [List.getElem_map, List.getElem_range, Function.comp]
    show D.tup (((Ns.getD (S.length + 1 + i - (S.length + 1)) []).map fun x => x / part).map .int) = _
    rw [show S.length + 1 + i - (S.length + 1) = i by omega]
    simp [List.getD, List.getElem?_eq_getElem h1]
  have cl : closeds ((lowRows part Ns).map fun r => D.tup (r.map .int)) = true := by
    rw [closeds_all]
    refine List.all_eq_true.mpr fun x hx => ?_
    obtain ⟨r, _, rfl⟩ := List.mem_map.mp hx
    simp only [closed, closeds_map_int]
  have lc := lcWE_map (own := [12]) (t := .one 12) (elt := dCall oTuple1 (dCons (dLc [13] (dItems (dVar 12)) (.one 13) (dYes) (dBin oDiv (dVar 13) (dVar 5))) (dNil))) (f := dItems (dVar 4)) (ρ := weE xs at_ n (bn : Nat) S.length part q6 q7 q8 q9 q10) (S := ST S Ns) (items := refs S.length Ns.length) (n := S.length) (rowH part Ns (S.length + 1)) (fun x => (weE xs at_ n (bn : Nat) S.length part q6 q7 q8 q9 q10).set 12 (some x)) (x_items (d := .ref S.length) rfl (by simp only [asWalk, ST_rows0]; rfl)) (ST_rows0 S Ns) (fun _ _ => rfl) (fun x hx' acc => by
    obtain ⟨i, hi, rfl⟩ := List.mem_map.mp hx'
    have hi := List.mem_range.mp hi
    have g := ST_nums S [acc] Ns i hi
    have gd : Ns.getD i [] = Ns[i] := by simp [List.getD, List.getElem?_eq_getElem hi]
    have inner := lcW_map (own := [13]) (t := .one 13) (elt := dBin oDiv (dVar 13) (dVar 5)) (f := dItems (dVar 12)) (ρ := (weE xs at_ n (bn : Nat) S.length part q6 q7 q8 q9 q10).set 12 (some (.ref (S.length + 1 + i)))) (S := ST S Ns ++ [acc]) (items := Ns[i].map .int) (n := S.length + 1 + i) (fun d => .int (ival d / part)) (fun x => ((weE xs at_ n (bn : Nat) S.length part q6 q7 q8 q9 q10).set 12 (some (.ref (S.length + 1 + i)))).set 13 (some x)) (x_items (d := .ref (S.length + 1 + i)) rfl (by simp only [asWalk, g]; rfl)) g (fun _ _ => rfl) (fun y hy V => by
      obtain ⟨z, _, rfl⟩ := List.mem_map.mp hy
      exact x_bin rfl rfl (o_divI (by omega) lg V)) (by
        have := (h.row Ns[i] (List.getElem_mem hi)).len
        rw [List.length_map]
        omega) (by simp [closeds_all, closed])
    refine x_c1 inner ?_
    show some (Res.ok (.tup _) _) = some (Res.ok (.tup (((Ns.getD (S.length + 1 + i - (S.length + 1)) []).map fun x => x / part).map .int)) _)
    rw [show S.length + 1 + i - (S.length + 1) = i by omega, gd, List.map_map, List.map_map]
    rfl) (by simp [refs, nl]; omega) (by rw [mp]; exact cl)
  rw [mp] at lc
  refine fn_rt (S1 := ST S Ns) ?_ (by simp [ST]) (by simp only [closed, closeds, cl, Bool.and_self])
  simp only [D__law_web]
  rw [show startD ["_law_numbers_here", "_law_at", "_law_size", "_law_bottom", "_law_rows", "_law_part", "_law_i", "_law_row", "_law_code", "_law_k", "_law_one", "_law_j", "_law_line", "_law_cell"] [.lst (xs.map .int), .int (at_ : Nat), .int (n : Nat), .int (bn : Nat)] = [some (.lst (xs.map .int)), some (.int (at_ : Nat)), some (.int (n : Nat)), some (.int (bn : Nat)), none, none, none, none, none, none, none, none, none, none] from rfl]
  have rg : dRange1 (dVar 2) (weE xs at_ n (bn : Nat) S.length (bn : Nat) none none none none none) (ST S []) = some (.ok ((List.range' 0 n).map fun i => D.int (i : Nat)) none (ST S [])) := by
    rw [range1_of (n := n) rfl (by omega), rgD_map, List.range_eq_range']
  refine q_set (d := .ref S.length) (S1 := ST S []) rfl (q_set rfl (q_nx ((for_of rg).trans e) (q_ret (x_tup (y_cons (x_c1 lc rfl) (y_cons (x_bin rfl rfl (o_divI (by omega) lg _)) y_nil)) rfl))))
end
end My
set_option Elab.async false
set_option linter.all false
set_option maxRecDepth 100000
set_option maxHeartbeats 1000000
set_option exponentiation.threshold 20000
namespace My
open PySem PySem.Spec PyProof.Rows L2 PD
/-! ### how many dice lead where -/
theorem sI_below : ∀ (b : Nat) (a : Int), 0 ≤ a → a ≤ b → (sI b fun d => if (d : Int) < a then 1 else 0) = a
  | 0, a, h0, h1 => by
    have : a = 0 := by omega
    subst this
    simp [sI]
  | b + 1, a, h0, h1 => by
    rw [sI_succ]
    by_cases h : a ≤ b
    · rw [sI_below b a h0 h, if_neg (by omega)]
      omega
    · have e : a = b + 1 := by omega
      subst e
      rw [if_pos (by omega), sI_congr (g := fun _ => 1) fun d hd => if_pos (by omega), sI_const]
      omega
/-- a die of the law: the digit d over the bottom -/
theorem digit_low {bn d : Nat} (hd : d < bn) : Low (d : Int) (bn : Int) (lowP d bn) (lowQ d bn) := low_ok (by omega) (by omega)
theorem digit_die {bn d : Nat} (hd : d < bn) (hb : bn < 200) : Die (lowP d bn) (lowQ d bn) := (digit_low hd).die (by omega) (by omega)
section
variable {n bn : Nat} {R : List (List Int)} {m part : Int}
theorem die_cum {x y : Int} {d : Nat} (b1 : 1 ≤ bn) (l : Low (d : Int) (bn : Int) x y) (m1 : 1 ≤ m) (eb : (bn : Int) = part * m) (c : Int) : x * m < c * y ↔ (d : Int) < c * part := by
  have e := l.e
  have y1 := l.y1
  have h1 : x * m * bn = d * m * y := by rw [Int.mul_right_comm, e, Int.mul_right_comm]
  have h2 : c * y * bn = c * part * m * y := by rw [eb, Int.mul_right_comm, ← Int.mul_assoc]
  constructor
  · intro z
    have := Int.mul_lt_mul_of_pos_right z (show (0 : Int) < bn by omega)
    rw [h1, h2] at this
    exact Int.lt_of_mul_lt_mul_right (Int.lt_of_mul_lt_mul_right this (by omega)) (by omega)
  · intro z
    have := Int.mul_lt_mul_of_pos_right (Int.mul_lt_mul_of_pos_right z (show 0 < m by omega)) (show 0 < y by omega)
    rw [← h1, ← h2] at this
    exact Int.lt_of_mul_lt_mul_right this (by omega)
theorem cum_mono (w : WK n R m) {i : Nat} (hi : i < n) : ∀ (d k : Nat), k + d ≤ n → cum R i k ≤ cum R i (k + d)
  | 0, k, _ => Int.le_refl _
  | d + 1, k, h => by
    have := cum_mono w hi d k (by omega)
    have z := (w.nn i hi (k + d) (by omega)).1
    have e : cum R i (k + (d + 1)) = cum R i (k + d) + at2 R i (k + d) := by unfold cum; rw [← Nat.add_assoc, sI_succ]
    omega
/-- the number of second dice that lead from i to j -/
theorem cnt_row (w : WK n R m) (b1 : 1 ≤ bn) (b2 : bn < 200) (p1 : 1 ≤ part) (eb : (bn : Int) = part * m) {i j : Nat} (hi : i < n) (hj : j < n) :
    cnt bn (fun p e => toP n R m p (lowP e bn) (lowQ e bn)) i j = at2 R i j * part := by
  have up : ∀ k ≤ n, cum R i k * part ≤ bn := fun k hk => by
    have := cum_mono w hi (n - k) k (by omega)
    rw [show k + (n - k) = n by omega] at this
    have s : cum R i n = m := w.sum i hi
    rw [s] at this
    have := Int.mul_le_mul_of_nonneg_right this (show 0 ≤ part by omega)
    rw [Int.mul_comm m part, ← eb] at this
    exact this
  have lo : ∀ k ≤ n, 0 ≤ cum R i k * part := fun k hk => Int.mul_nonneg (cum_small w hi hk).1 (by omega)
  have cell : ∀ e < bn, (if toP n R m i (lowP e bn) (lowQ e bn) = j then (1 : Int) else 0) = (if (e : Int) < cum R i (j + 1) * part then 1 else 0) + -1 * (if (e : Int) < cum R i j * part then 1 else 0) := fun e he => by
    have L := leads_toP w hi (digit_die he b2)
    generalize toP n R m i (lowP e bn) (lowQ e bn) = j0 at L
    have l := digit_low he
    have a1 : (e : Int) < cum R i (j0 + 1) * part := (die_cum b1 l w.m1 eb _).mp L.up
    have a2 : ∀ k < j0, ¬ (e : Int) < cum R i (k + 1) * part := fun k hk z => L.lo k hk ((die_cum b1 l w.m1 eb _).mpr z)
    have mono : ∀ k k', k ≤ k' → k' ≤ n → cum R i k * part ≤ cum R i k' * part := fun k k' h1 h2 => by
      have := cum_mono w hi (k' - k) k (by omega)
      rw [show k + (k' - k) = k' by omega] at this
      exact Int.mul_le_mul_of_nonneg_right this (by omega)
    have j0n := L.lt
    rcases Nat.lt_trichotomy j0 j with h | h | h
    · have := mono (j0 + 1) j (by omega) (by omega)
      have := mono j (j + 1) (by omega) (by omega)
      rw [if_neg (by omega), if_pos (by omega), if_pos (by omega)]
      rfl
    · subst h
      have z : ¬ (e : Int) < cum R i j0 * part := by
        cases j0 with
        | zero =>
          have : cum R i 0 = 0 := by simp [cum, sI]
          rw [this, Int.zero_mul]
          omega
        | succ k => exact a2 k (by omega)
      rw [if_pos rfl, if_pos a1, if_neg z]
      rfl
    · have z := a2 j h
      have := mono j (j + 1) (by omega) (by omega)
      rw [if_neg (by omega), if_neg z, if_neg (by omega)]
      rfl
  unfold cnt
  rw [sI_congr cell, sI_add, sI_mulL, sI_below bn _ (lo (j + 1) (by omega)) (up (j + 1) (by omega)), sI_below bn _ (lo j (by omega)) (up j (by omega))]
  have e : cum R i (j + 1) = cum R i j + at2 R i j := by unfold cum; rw [sI_succ]
  rw [e, Int.add_mul]
  omega
/-! the number of first dice -/
theorem share_coin {c : Nat → Int × Int} {a : Nat → Int} (b1 : 1 ≤ bn) (h : ∀ i < n, Low (a i) bn (c i).1 (c i).2 ∧ 0 ≤ a i ∧ a i ≤ bn) {p : Nat} (hp : p < n) (t : Nat) :
    share bn (fun p t d => !decide (lowP d bn * (c p).2 < (c p).1 * lowQ d bn)) p t = bn - a p := by
  obtain ⟨l, a0, a1⟩ := h p hp
  have cell : ∀ d < bn, (if (!decide (lowP d bn * (c p).2 < (c p).1 * lowQ d bn)) = true then (1 : Int) else 0) = 1 + -1 * (if (d : Int) < a p then 1 else 0) := fun d hd => by
    have e := low_lt (digit_low hd) l (show (1 : Int) ≤ bn by omega)
    by_cases z : (d : Int) < a p
    · rw [if_pos z, decide_eq_true (e.mpr z)]; rfl
    · rw [if_neg z, decide_eq_false (fun y => z (e.mp y))]; rfl
  unfold share
  rw [sI_congr cell, sI_add, sI_const, sI_mulL, sI_below bn _ a0 a1]
  omega
theorem share_early {mk : Nat → Option (Nat × Int × Int)} {a : Nat → Int} (b1 : 1 ≤ bn) (h : ∀ i < n, BLow bn (a i) (mk i)) {p : Nat} (hp : p < n) (t : Nat) :
    share bn (fun p t d => early (mk p) t (lowP d bn) (lowQ d bn)) p t = shareB bn (a p) (mk p) t := by
  unfold share
  have hh := h p hp
  show (sI bn fun d => if early (mk p) t (lowP d bn) (lowQ d bn) = true then (1 : Int) else 0) = shareB bn (a p) (mk p) t
  generalize mk p = b at hh
  match b, hh with
  | none, _ =>
    show (sI bn fun d => if true = true then (1 : Int) else 0) = bn
    simp only [if_true]
    rw [sI_const]
    omega
  | some (k, x, y), hh =>
    obtain ⟨l, a0, a1⟩ := hh.ok k x y rfl
    show (sI bn fun d => if (decide (t < k) || (decide (t = k) && decide (lowP d bn * y < x * lowQ d bn))) = true then (1 : Int) else 0) = if t < k then (bn : Int) else if t = k then a p else 0
    by_cases z : t < k
    · simp only [decide_eq_true z, Bool.true_or, if_true, if_pos z]
      rw [sI_const]
      omega
    · rw [if_neg z]
      simp only [decide_eq_false z, Bool.false_or]
      by_cases y' : t = k
      · rw [if_pos y']
        simp only [decide_eq_true y', Bool.true_and, decide_eq_true_eq]
        rw [sI_congr (g := fun d => if (d : Int) < a p then 1 else 0) fun d hd => by
          have e := low_lt (digit_low hd) l (show (1 : Int) ≤ bn by omega)
          by_cases q : (d : Int) < a p
          · rw [if_pos q, if_pos (e.mpr q)]
          · rw [if_neg q, if_neg fun y => q (e.mp y)], sI_below bn _ a0 (by omega)]
      · rw [if_neg y']
        simp only [decide_eq_false y', Bool.false_and, Bool.false_eq_true, if_false]
        exact sI_zero bn
theorem share_swap (go : Nat → Nat → Nat → Bool) (p t : Nat) : share bn (fun p t d => !go p t d) p t = bn - share bn go p t := by
  rw [← share_not]
  unfold share
  exact sI_congr fun d _ => by
    show (if (!go p t d) = true then (1 : Int) else 0) = if go p t d = true then 0 else 1
    cases go p t d <;> rfl
end
end My
set_option Elab.async false
set_option linter.all false
set_option maxRecDepth 100000
set_option maxHeartbeats 1000000
set_option exponentiation.threshold 20000
namespace My
open PySem PySem.Spec PyProof.Rows L2 PD
/-! ### what the law says is due -/
/-- what a manner's marks give as shares -/
structure Sh (n : Nat) (b : Int) (s : Str) (ms : List D) (sh : Nat → Nat → Int) : Prop where
  len : ms.length = n
  v : ∀ i < n, ∃ d, ms[i]? = some d ∧ ∀ (t : Nat) S, O__law_share [.str s, d, .int (t : Nat), .int b] S = some (.ok (.int (sh i t)) S)
  nn : ∀ i < n, ∀ t, 0 ≤ sh i t ∧ sh i t ≤ b
/-- the weights -/
def stF (n : Nat) (R : List (List Int)) (part : Int) (sh : Nat → Nat → Int) (p : Nat) : Nat → Nat → Int
  | 0, i => if i = p then 1 else 0
  | t + 1, j => sI n fun i => stF n R part sh p t i * sh i t * part * at2 R i j
def goR (n : Nat) (R : List (List Int)) (part : Int) (sh : Nat → Nat → Int) (p : Nat) (b : Int) (many t : Nat) : List Int := (List.range n).map fun i => stF n R part sh p t i * sh i t * b * (b * b) ^ (many - (t + 1))
def stR (n : Nat) (R : List (List Int)) (part : Int) (sh : Nat → Nat → Int) (p : Nat) (b : Int) (many t : Nat) : List Int := (List.range n).map fun i => stF n R part sh p t i * (b - sh i t) * b * (b * b) ^ (many - (t + 1))
section
variable {n : Nat} {R : List (List Int)} {m part b : Int} {sh : Nat → Nat → Int} {p many : Nat} {s : Str} {ms : List D}
theorem lcI_rangeK {ρ : EnvD} {S : Store} {fi : Iens} {elt : Den} (j n : Nat) (f : Nat → Int) (hf : fi ρ S = some (.ok (rgD 0 n) none S)) (he : ∀ i < n, ∀ T, elt ((wipeD ρ [j]).set j (some (.int (i : Nat)))) T = some (.ok (.int (f i)) T)) (hn : n ≤ 16777216) : dLc [j] fi (.one j) dYes elt ρ S = some (.ok (.lst (((List.range n).map f).map .int)) S) :=
  lcE_range j n f hf (fun i hi acc => he i hi _) hn
theorem stF_b (w : WK n R m) (p1 : 1 ≤ part) (p2 : part ≤ 60) (b2 : b ≤ 60) (hs : ∀ i < n, ∀ t, 0 ≤ sh i t ∧ sh i t ≤ b) : ∀ (t : Nat), ∀ i < n, 0 ≤ stF n R part sh p t i ∧ stF n R part sh p t i ≤ 2 ^ (21 * t)
  | 0, i, _ => by
    show 0 ≤ (if i = p then (1 : Int) else 0) ∧ (if i = p then (1 : Int) else 0) ≤ 2 ^ (21 * 0)
    split <;> decide
  | t + 1, j, hj => by
    have ih := stF_b w p1 p2 b2 hs t
    have n8 := w.n8
    have M0 : (0 : Int) ≤ 2 ^ (21 * t) := Int.pow_nonneg (by decide)
    have cell : ∀ i < n, 0 ≤ stF n R part sh p t i * sh i t * part * at2 R i j ∧ stF n R part sh p t i * sh i t * part * at2 R i j ≤ 2 ^ (21 * t) * 60 * 60 * 60 := fun i hi => by
      obtain ⟨a0, a1⟩ := ih i hi
      obtain ⟨c0, c1⟩ := hs i hi t
      obtain ⟨d0, d1⟩ := w.nn i hi j hj
      have e0 := Int.mul_nonneg a0 c0
      have e1 := Int.mul_le_mul a1 (show sh i t ≤ 60 by omega) c0 M0
      have f0 := Int.mul_nonneg e0 (show 0 ≤ part by omega)
      have f1 := Int.mul_le_mul e1 p2 (by omega) (Int.mul_nonneg M0 (by decide))
      exact ⟨Int.mul_nonneg f0 d0, Int.mul_le_mul f1 d1 d0 (Int.mul_nonneg (Int.mul_nonneg M0 (by decide)) (by decide))⟩
    have sb := sI_bound n (fun i => stF n R part sh p t i * sh i t * part * at2 R i j) _ cell
    have e : (2 : Int) ^ (21 * (t + 1)) = 2 ^ (21 * t) * 2097152 := by rw [show 21 * (t + 1) = 21 * t + 21 by omega, Int.pow_add]; rfl
    refine ⟨sb.1, Int.le_trans sb.2 ?_⟩
    rw [e]
    generalize (2 : Int) ^ (21 * t) = M at M0
    have : (n : Int) * (M * 60 * 60 * 60) ≤ 8 * (M * 60 * 60 * 60) := Int.mul_le_mul_of_nonneg_right (by omega) (by omega)
    omega
end
end My
set_option Elab.async false
set_option linter.all false
set_option maxRecDepth 100000
set_option maxHeartbeats 1000000
set_option exponentiation.threshold 20000
namespace My
open PySem PySem.Spec PyProof.Rows L2 PD
def nb (A : Nat) (x : Int) : Prop := 0 ≤ x ∧ x ≤ 2 ^ A
theorem nb.mul {A B : Nat} {x y : Int} (hx : nb A x) (hy : nb B y) : nb (A + B) (x * y) := ⟨Int.mul_nonneg hx.1 hy.1, by
  rw [Int.pow_add]
  exact Int.mul_le_mul hx.2 hy.2 hy.1 (Int.pow_nonneg (by decide))⟩
theorem nb.mono {A B : Nat} {x : Int} (h : nb A x) (hl : A ≤ B) : nb B x := ⟨h.1, Int.le_trans h.2 (pow_le hl)⟩
theorem nb.small {A : Nat} {x : Int} (h : nb A x) (hl : A ≤ 1000) : small x := by
  have h1 : x < 2 ^ 1001 := by
    have := pow_le (A := A) (B := 1000) hl
    have e : (2 : Int) ^ 1001 = 2 ^ 1000 * 2 := Int.pow_succ ..
    have p : (1 : Int) ≤ 2 ^ 1000 := Int.pow_pos (by decide)
    have := h.2
    omega
  exact small_lt h.1 h1 (by decide)
abbrev duE (n : Nat) (R : List (List Int)) (m : Int) (s : Str) (ms : List D) (p : Nat) (b : Int) (many : Nat) (N : Nat) (rest : Int) (st : List Int) (r12 r13 r14 r15 : Option D) : EnvD := [some (wb R m), some (.str s), some (.tup ms), some (.int (p : Nat)), some (.int b), some (.int (many : Nat)), some (.int (n : Nat)), some (.int rest), some (IL st), none, some (.ref N), some (.ref (N + 1)), r12, r13, r14, r15, none]
noncomputable abbrev dueB_ : SDen := (sSeq (sSet 13 (dLc [9] (dRange1 (dVar 6)) (.one 9) (dYes) (dFn 4 O__law_share (dCons (dVar 1) (dCons (dBin oIx (dVar 2) (dVar 9)) (dCons (dVar 12) (dCons (dVar 4) (dNil)))))))) (sSeq (sSet 7 (dBin oDiv (dVar 7) (dBin oMul (dVar 4) (dVar 4)))) (sSeq (sExpr (dApp (dVar 10) (dLc [9] (dRange1 (dVar 6)) (.one 9) (dYes) (dBin oMul (dBin oMul (dBin oMul (dBin oIx (dVar 8) (dVar 9)) (dBin oIx (dVar 13) (dVar 9))) (dVar 4)) (dVar 7))))) (sSeq (sExpr (dApp (dVar 11) (dLc [9] (dRange1 (dVar 6)) (.one 9) (dYes) (dBin oMul (dBin oMul (dBin oMul (dBin oIx (dVar 8) (dVar 9)) (dBin oSub (dVar 4) (dBin oIx (dVar 13) (dVar 9)))) (dVar 4)) (dVar 7))))) (sSeq (sSet 14 (dBin oDiv (dVar 4) (dBin oIx (dVar 0) (dC (.int 1))))) (sSeq (sSet 15 (dLc [9] (dRange1 (dVar 6)) (.one 9) (dYes) (dBin oMul (dBin oMul (dBin oIx (dVar 8) (dVar 9)) (dBin oIx (dVar 13) (dVar 9))) (dVar 14)))) (sSeq (sSet 8 (dLc [16] (dRange1 (dVar 6)) (.one 16) (dYes) (dCall oSum (dCons (dLc [9] (dRange1 (dVar 6)) (.one 9) (dYes) (dBin oMul (dBin oIx (dVar 15) (dVar 9)) (dBin oIx (dBin oIx (dBin oIx (dVar 0) (dC (.int 0))) (dVar 9)) (dVar 16)))) (dNil))))) (sNil))))))))
section
variable {n : Nat} {R : List (List Int)} {m part b : Int} {sh : Nat → Nat → Int} {p many : Nat} {s : Str} {ms : List D} {S : Store}
def stL (n : Nat) (R : List (List Int)) (part : Int) (sh : Nat → Nat → Int) (p t : Nat) : List Int := (List.range n).map (stF n R part sh p t)
theorem set_two1 (S : Store) (X Y Z : List D) : (S ++ [X] ++ [Y]).set S.length Z = S ++ [Z] ++ [Y] := by simp
theorem set_two2 (S : Store) (X Y Z : List D) : (S ++ [X] ++ [Y]).set (S.length + 1) Z = S ++ [X] ++ [Z] := by
  rw [List.set_append_right _ _ (by simp)]
  simp
theorem get_two2 (S : Store) (X Y : List D) : (S ++ [X] ++ [Y])[S.length + 1]? = some Y := by
  rw [List.getElem?_append_right (by simp)]
  simp
theorem IL_row_snoc (f : Nat → List Int) (k : Nat) : ((List.range k).map f).map IL ++ [IL (f k)] = ((List.range (k + 1)).map f).map IL := by
  rw [List.range_succ, List.map_append, List.map_append]
  rfl
theorem o_sumLI (f : Nat → Int) (n : Nat) (S : Store) : oSum [.lst (((List.range n).map f).map .int)] S = some (.ok (.int (sI n f)) S) := by
  show ((asSeq S (.lst (((List.range n).map f).map .int))).bind fun xs => (intsD xs).map fun ns => Res.ok (.int ns.sum) S) = _
  simp only [asSeq, Option.bind_some, intsD_map, Option.map_some]
  rfl
theorem due_turn (w : WK n R m) (p1 : 1 ≤ part) (p2 : part ≤ 60) (b1 : 1 ≤ b) (b2 : b ≤ 60) (eb : b = part * m) (hs : Sh n b s ms sh) {t : Nat} (ht : t < many) (m4 : many ≤ 4) (r13 r14 r15 : Option D) :
    ∃ q13 q14 q15, dueB_ (duE n R m s ms p b many S.length ((b * b) ^ (many - t)) (stL n R part sh p t) (some (.int (t : Nat))) r13 r14 r15) (S ++ [((List.range t).map (goR n R part sh p b many)).map IL] ++ [((List.range t).map (stR n R part sh p b many)).map IL]) = some (.nx (duE n R m s ms p b many S.length ((b * b) ^ (many - (t + 1))) (stL n R part sh p (t + 1)) (some (.int (t : Nat))) q13 q14 q15) (S ++ [((List.range (t + 1)).map (goR n R part sh p b many)).map IL] ++ [((List.range (t + 1)).map (stR n R part sh p b many)).map IL])) := by
  have n8 := w.n8
  have m1 := w.m1
  have rg : ∀ (ρ : EnvD) V, ρ[6]? = some (some (.int (n : Nat))) → dRange1 (dVar 6) ρ V = some (.ok (rgD 0 n) none V) := fun ρ V h => range1_of (n := n) (by rw [e_var, h]) (by omega)
  have bb1 : 1 ≤ b * b := Int.mul_pos (by omega) (by omega)
  have nbb : nb 6 b := ⟨by omega, by have : (2 : Int) ^ 6 = 64 := rfl; omega⟩
  have nbp : nb 6 part := ⟨by omega, by have : (2 : Int) ^ 6 = 64 := rfl; omega⟩
  have rn : ∀ k ≤ 4, 1 ≤ (b * b) ^ k ∧ nb 48 ((b * b) ^ k) := fun k hk => by
    have h1 : 1 ≤ (b * b) ^ k := Int.pow_pos (by omega)
    refine ⟨h1, ?_⟩
    have : ∀ k : Nat, nb (12 * k) ((b * b) ^ k) := fun k => by
      induction k with
      | zero => exact ⟨by simp, by simp⟩
      | succ k ih => rw [Int.pow_succ, show 12 * (k + 1) = 12 * k + (6 + 6) by omega]; exact ih.mul (nbb.mul nbb)
    exact (this k).mono (by omega)
  obtain ⟨q1, qn⟩ := rn (many - (t + 1)) (by omega)
  have re : (b * b) ^ (many - t) / (b * b) = (b * b) ^ (many - (t + 1)) := by
    rw [show many - t = (many - (t + 1)) + 1 by omega, Int.pow_succ]
    exact Int.mul_ediv_cancel _ (by omega)
  generalize hq : (b * b) ^ (many - (t + 1)) = rest at q1 qn re
  have stn : ∀ i < n, nb 84 (stF n R part sh p t i) := fun i hi => by
    have := stF_b (p := p) w p1 p2 b2 hs.nn t i hi
    exact ⟨this.1, Int.le_trans this.2 (pow_le (by omega))⟩
  have shn : ∀ i < n, nb 6 (sh i t) ∧ nb 6 (b - sh i t) := fun i hi => by
    have := hs.nn i hi t
    have e : (2 : Int) ^ 6 = 64 := rfl
    exact ⟨⟨this.1, by omega⟩, ⟨by omega, by omega⟩⟩
  let shL : List Int := (List.range n).map fun i => sh i t
  have gst : ∀ i < n, ∀ V, oIx (IL (stL n R part sh p t)) (.int (i : Nat)) V = some (.ok (.int (stF n R part sh p t i)) V) := fun i hi V => by
    have := ixLi (xs := stL n R part sh p t) (i := i) (by simp [stL]; exact hi) V
    rwa [show gt (stL n R part sh p t) i = stF n R part sh p t i from gt_range hi] at this
  have gsh : ∀ i < n, ∀ V, oIx (IL shL) (.int (i : Nat)) V = some (.ok (.int (sh i t)) V) := fun i hi V => by
    have := ixLi (xs := shL) (i := i) (by simp [shL]; exact hi) V
    rwa [show gt shL i = sh i t from gt_range hi] at this
  have l13 : ∀ V, dLc [9] (dRange1 (dVar 6)) (.one 9) (dYes) (dFn 4 O__law_share (dCons (dVar 1) (dCons (dBin oIx (dVar 2) (dVar 9)) (dCons (dVar 12) (dCons (dVar 4) (dNil)))))) (duE n R m s ms p b many S.length ((b * b) ^ (many - t)) (stL n R part sh p t) (some (.int (t : Nat))) r13 r14 r15) V = some (.ok (IL shL) V) := fun V =>
    lcI_rangeK 9 n (fun i => sh i t) (rg _ V rfl) (fun i hi T => by
      obtain ⟨d, h1, h2⟩ := hs.v i hi
      exact x_f4 (f1 := dVar 1) (f3 := dVar 12) (f4 := dVar 4) rfl (x_bin rfl rfl (ixTup h1 T)) rfl rfl (h2 t T)) (by omega)
  have lgbb : (b * b).natAbs.log2 < 9000 := by have := log_small (nbb.mul nbb |>.small (by decide)); omega
  have d7 : ∀ V r13, dBin oDiv (dVar 7) (dBin oMul (dVar 4) (dVar 4)) (duE n R m s ms p b many S.length ((b * b) ^ (many - t)) (stL n R part sh p t) (some (.int (t : Nat))) r13 r14 r15) V = some (.ok (.int rest) V) := fun V r13 => by
    rw [← re]
    exact x_bin rfl (x_bin rfl rfl (e_mulI (nbb.small (by decide)) (nbb.small (by decide)) V)) (o_divI (by omega) lgbb V)
  have lgo : ∀ V, dLc [9] (dRange1 (dVar 6)) (.one 9) (dYes) (dBin oMul (dBin oMul (dBin oMul (dBin oIx (dVar 8) (dVar 9)) (dBin oIx (dVar 13) (dVar 9))) (dVar 4)) (dVar 7)) (duE n R m s ms p b many S.length rest (stL n R part sh p t) (some (.int (t : Nat))) (some (IL shL)) r14 r15) V = some (.ok (IL (goR n R part sh p b many t)) V) := fun V => by
    have e := lcI_rangeK (ρ := duE n R m s ms p b many S.length rest (stL n R part sh p t) (some (.int (t : Nat))) (some (IL shL)) r14 r15) (S := V) (fi := dRange1 (dVar 6)) (elt := dBin oMul (dBin oMul (dBin oMul (dBin oIx (dVar 8) (dVar 9)) (dBin oIx (dVar 13) (dVar 9))) (dVar 4)) (dVar 7)) 9 n (fun i => stF n R part sh p t i * sh i t * b * rest) (rg _ V rfl) (fun i hi T => x_bin (x_bin (x_bin (x_bin rfl rfl (gst i hi T)) (x_bin rfl rfl (gsh i hi T)) (e_mulI ((stn i hi).small (by decide)) ((shn i hi).1.small (by decide)) T)) rfl (e_mulI (((stn i hi).mul (shn i hi).1).small (by decide)) (nbb.small (by decide)) T)) rfl (e_mulI ((((stn i hi).mul (shn i hi).1).mul nbb).small (by decide)) (qn.small (by decide)) T)) (by omega)
    rw [e]
    unfold goR
    rw [hq]
  have lst_ : ∀ V, dLc [9] (dRange1 (dVar 6)) (.one 9) (dYes) (dBin oMul (dBin oMul (dBin oMul (dBin oIx (dVar 8) (dVar 9)) (dBin oSub (dVar 4) (dBin oIx (dVar 13) (dVar 9)))) (dVar 4)) (dVar 7)) (duE n R m s ms p b many S.length rest (stL n R part sh p t) (some (.int (t : Nat))) (some (IL shL)) r14 r15) V = some (.ok (IL (stR n R part sh p b many t)) V) := fun V => by
    have e := lcI_rangeK (ρ := duE n R m s ms p b many S.length rest (stL n R part sh p t) (some (.int (t : Nat))) (some (IL shL)) r14 r15) (S := V) (fi := dRange1 (dVar 6)) (elt := dBin oMul (dBin oMul (dBin oMul (dBin oIx (dVar 8) (dVar 9)) (dBin oSub (dVar 4) (dBin oIx (dVar 13) (dVar 9)))) (dVar 4)) (dVar 7)) 9 n (fun i => stF n R part sh p t i * (b - sh i t) * b * rest) (rg _ V rfl) (fun i hi T => x_bin (x_bin (x_bin (x_bin rfl rfl (gst i hi T)) (x_bin rfl (x_bin rfl rfl (gsh i hi T)) rfl) (e_mulI ((stn i hi).small (by decide)) ((shn i hi).2.small (by decide)) T)) rfl (e_mulI (((stn i hi).mul (shn i hi).2).small (by decide)) (nbb.small (by decide)) T)) rfl (e_mulI ((((stn i hi).mul (shn i hi).2).mul nbb).small (by decide)) (qn.small (by decide)) T)) (by omega)
    rw [e]
    unfold stR
    rw [hq]
  have a1 := p_app (ρ := duE n R m s ms p b many S.length rest (stL n R part sh p t) (some (.int (t : Nat))) (some (IL shL)) r14 r15) (fo := dVar 10) (n := S.length) rfl (lgo (S ++ [((List.range t).map (goR n R part sh p b many)).map IL] ++ [((List.range t).map (stR n R part sh p b many)).map IL])) (get_two S _ _) (by simp; omega)
  rw [set_two1, IL_row_snoc] at a1
  have a2 := p_app (ρ := duE n R m s ms p b many S.length rest (stL n R part sh p t) (some (.int (t : Nat))) (some (IL shL)) r14 r15) (fo := dVar 11) (n := S.length + 1) rfl (lst_ (S ++ [((List.range (t + 1)).map (goR n R part sh p b many)).map IL] ++ [((List.range t).map (stR n R part sh p b many)).map IL])) (get_two2 S _ _) (by simp; omega)
  rw [set_two2, IL_row_snoc] at a2
  generalize S ++ [((List.range (t + 1)).map (goR n R part sh p b many)).map IL] ++ [((List.range (t + 1)).map (stR n R part sh p b many)).map IL] = V at a2
  have bm : b / m = part := by rw [eb]; exact Int.mul_ediv_cancel _ (by omega)
  have lgm : m.natAbs.log2 < 9000 := by
    have := log_small (a := m) (sm60 (by omega) (by have := w.m60; omega))
    omega
  have d14 : dBin oDiv (dVar 4) (dBin oIx (dVar 0) (dC (.int 1))) (duE n R m s ms p b many S.length rest (stL n R part sh p t) (some (.int (t : Nat))) (some (IL shL)) r14 r15) V = some (.ok (.int part) V) := by
    rw [← bm]
    exact x_bin rfl (x_bin rfl rfl (e_ix1 _ _ _ V)) (o_divI (by omega) lgm V)
  let gone : List Int := (List.range n).map fun i => stF n R part sh p t i * sh i t * part
  have ggo : ∀ i < n, ∀ V, oIx (IL gone) (.int (i : Nat)) V = some (.ok (.int (stF n R part sh p t i * sh i t * part)) V) := fun i hi V => by
    have := ixLi (xs := gone) (i := i) (by simp [gone]; exact hi) V
    rwa [show gt gone i = stF n R part sh p t i * sh i t * part from gt_range hi] at this
  have l15 : dLc [9] (dRange1 (dVar 6)) (.one 9) (dYes) (dBin oMul (dBin oMul (dBin oIx (dVar 8) (dVar 9)) (dBin oIx (dVar 13) (dVar 9))) (dVar 14)) (duE n R m s ms p b many S.length rest (stL n R part sh p t) (some (.int (t : Nat))) (some (IL shL)) (some (.int part)) r15) V = some (.ok (IL gone) V) :=
    lcI_rangeK 9 n (fun i => stF n R part sh p t i * sh i t * part) (rg _ V rfl) (fun i hi T => x_bin (x_bin (x_bin rfl rfl (gst i hi T)) (x_bin rfl rfl (gsh i hi T)) (e_mulI ((stn i hi).small (by decide)) ((shn i hi).1.small (by decide)) T)) rfl (e_mulI (((stn i hi).mul (shn i hi).1).small (by decide)) (nbp.small (by decide)) T)) (by omega)
  have at2n : ∀ i < n, ∀ j < n, nb 6 (at2 R i j) := fun i hi j hj => by
    have := w.nn i hi j hj
    have e : (2 : Int) ^ 6 = 64 := rfl
    exact ⟨this.1, by omega⟩
  have l8 : dLc [16] (dRange1 (dVar 6)) (.one 16) (dYes) (dCall oSum (dCons (dLc [9] (dRange1 (dVar 6)) (.one 9) (dYes) (dBin oMul (dBin oIx (dVar 15) (dVar 9)) (dBin oIx (dBin oIx (dBin oIx (dVar 0) (dC (.int 0))) (dVar 9)) (dVar 16)))) (dNil))) (duE n R m s ms p b many S.length rest (stL n R part sh p t) (some (.int (t : Nat))) (some (IL shL)) (some (.int part)) (some (IL gone))) V = some (.ok (IL (stL n R part sh p (t + 1))) V) := by
    refine lcI_rangeK 16 n (fun j => stF n R part sh p (t + 1) j) (rg _ V rfl) (fun j hj T => ?_) (by omega)
    refine x_c1 (d1 := .lst (((List.range n).map fun i => stF n R part sh p t i * sh i t * part * at2 R i j).map .int)) ?_ (o_sumLI _ n T)
    exact lcI_rangeK 9 n (fun i => stF n R part sh p t i * sh i t * part * at2 R i j) (rg _ T rfl) (fun i hi Z => x_bin (x_bin rfl rfl (ggo i hi Z)) (x_bin (x_bin (x_bin rfl rfl (e_ix0 _ _ Z)) rfl (ixTup (wb_row w hi) Z)) rfl (ixT (by rw [w.row i hi]; exact hj) Z)) (e_mulI ((((stn i hi).mul (shn i hi).1).mul nbp).small (by decide)) ((at2n i hi j hj).small (by decide)) Z)) (by omega)
  refine ⟨some (IL shL), some (.int part), some (IL gone), ?_⟩
  exact q_set (l13 _) (q_set (d7 _ _) (q_expr a1 (q_expr a2 (q_set d14 (q_set l15 (q_set l8 rfl))))))
end
end My
set_option Elab.async false
set_option linter.all false
set_option maxRecDepth 100000
set_option maxHeartbeats 1000000
set_option exponentiation.threshold 20000
namespace My
open PySem PySem.Spec PyProof.Rows L2 PD
section
variable {n : Nat} {R : List (List Int)} {m part b : Int} {sh : Nat → Nat → Int} {p many : Nat} {s : Str} {ms : List D} {S : Store}
theorem o_powI {b : Int} (b0 : 0 ≤ b) (b2 : b ≤ 60) (k : Nat) (hk : k ≤ 1000) (S : Store) : oPow (.int b) (.int (k : Nat)) S = some (.ok (.int (b ^ k)) S) := by
  have h : (0 : Int) ≤ ((k : Nat) : Int) ∧ ((k : Nat) : Int) ≤ 1000000 ∧ b.natAbs < 2 ^ 64 := ⟨by omega, by omega, Nat.lt_of_le_of_lt (show b.natAbs ≤ 60 by omega) (by decide)⟩
  simp [oPow, oInt2, h]
/-- the number of ways to throw the dice -/
theorem pows {ρ : EnvD} {V : Store} {i j : Nat} (b0 : 0 ≤ b) (b2 : b ≤ 60) (hb : ρ[i]? = some (some (.int b))) (hm : ρ[j]? = some (some (.int (many : Nat)))) (m4 : many ≤ 4) : dBin oIx (dLst (dCons (dC (.int 1)) (dCons (dBin oPow (dVar i) (dC (.int 2))) (dCons (dBin oPow (dVar i) (dC (.int 4))) (dCons (dBin oPow (dVar i) (dC (.int 6))) (dCons (dBin oPow (dVar i) (dC (.int 8))) (dNil))))))) (dVar j) ρ V = some (.ok (.int ((b * b) ^ many)) V) := by
  have pw : ∀ k : Nat, k ≤ 1000 → dBin oPow (dVar i) (dC (.int ((k : Nat) : Int))) ρ V = some (.ok (.int (b ^ k)) V) := fun k hk => x_bin (by rw [e_var, hb]) rfl (o_powI b0 b2 k hk V)
  have l : dLst (dCons (dC (.int 1)) (dCons (dBin oPow (dVar i) (dC (.int 2))) (dCons (dBin oPow (dVar i) (dC (.int 4))) (dCons (dBin oPow (dVar i) (dC (.int 6))) (dCons (dBin oPow (dVar i) (dC (.int 8))) (dNil)))))) ρ V = some (.ok (.lst [.int 1, .int (b ^ 2), .int (b ^ 4), .int (b ^ 6), .int (b ^ 8)]) V) := x_lst (y_cons rfl (y_cons (pw 2 (by decide)) (y_cons (pw 4 (by decide)) (y_cons (pw 6 (by decide)) (y_cons (pw 8 (by decide)) y_nil))))) rfl
  refine x_bin l (by rw [e_var, hm]) (ixLst (i := many) ?_ V)
  have e : ∀ k : Nat, (b * b) ^ k = b ^ (2 * k) := fun k => by
    rw [Int.pow_mul]
    congr 1
    rw [Int.pow_succ, Int.pow_succ, Int.pow_zero, Int.one_mul]
  rw [e]
  match many, m4 with
  | 0, _ => simp
  | 1, _ => rfl
  | 2, _ => rfl
  | 3, _ => rfl
  | 4, _ => rfl
theorem due_loop (w : WK n R m) (p1 : 1 ≤ part) (p2 : part ≤ 60) (b1 : 1 ≤ b) (b2 : b ≤ 60) (eb : b = part * m) (hs : Sh n b s ms sh) (m4 : many ≤ 4) (all : List D) : ∀ (j t : Nat) (r12 r13 r14 r15 : Option D), t + j ≤ many →
    ∃ q12 q13 q14 q15, forLoop none all (tName 12) dueB_ ((List.range' t j).map fun i => D.int (i : Nat)) (duE n R m s ms p b many S.length ((b * b) ^ (many - t)) (stL n R part sh p t) r12 r13 r14 r15) (S ++ [((List.range t).map (goR n R part sh p b many)).map IL] ++ [((List.range t).map (stR n R part sh p b many)).map IL]) = some (.nx (duE n R m s ms p b many S.length ((b * b) ^ (many - (t + j))) (stL n R part sh p (t + j)) q12 q13 q14 q15) (S ++ [((List.range (t + j)).map (goR n R part sh p b many)).map IL] ++ [((List.range (t + j)).map (stR n R part sh p b many)).map IL]))
  | 0, t, r12, r13, r14, r15, _ => ⟨r12, r13, r14, r15, rfl⟩
  | j + 1, t, r12, r13, r14, r15, hj => by
    obtain ⟨q13, q14, q15, e1⟩ := due_turn (S := S) w p1 p2 b1 b2 eb hs (show t < many by omega) m4 r13 r14 r15
    obtain ⟨y12, y13, y14, y15, e2⟩ := due_loop w p1 p2 b1 b2 eb hs m4 all j (t + 1) (some (.int (t : Nat))) q13 q14 q15 (by omega)
    rw [show t + 1 + j = t + (j + 1) by omega] at e2
    exact ⟨y12, y13, y14, y15, loopS_cons rfl e1 e2⟩
/-- the goes, the stays, the stands that are due -/
def dueT (n : Nat) (R : List (List Int)) (part : Int) (sh : Nat → Nat → Int) (p : Nat) (b : Int) (many : Nat) : D := .tup [lls ((List.range many).map (goR n R part sh p b many)), lls ((List.range many).map (stR n R part sh p b many)), IL (stL n R part sh p many)]
theorem v_dues (w : WK n R m) (p1 : 1 ≤ part) (p2 : part ≤ 60) (b1 : 1 ≤ b) (b2 : b ≤ 60) (eb : b = part * m) (hs : Sh n b s ms sh) (m4 : many ≤ 4) (S : Store) : O__law_dues [wb R m, .str s, .tup ms, .int (p : Nat), .int b, .int (many : Nat)] S = some (.ok (dueT n R part sh p b many) S) := by
  have n8 := w.n8
  obtain ⟨q12, q13, q14, q15, e⟩ := due_loop (S := S) (p := p) w p1 p2 b1 b2 eb hs m4 ((List.range' 0 many).map fun i => D.int (i : Nat)) many 0 none none none none (by omega)
  rw [Nat.zero_add, Nat.sub_zero] at e
  have c1 : closeds (((List.range many).map (goR n R part sh p b many)).map IL) = true := closed_lls _
  have c2 : closeds (((List.range many).map (stR n R part sh p b many)).map IL) = true := closed_lls _
  have c3 : closed (IL (stL n R part sh p many)) = true := by simp only [closed, closeds_map_int]
  generalize hG : ((List.range many).map (goR n R part sh p b many)).map IL = G at e c1
  generalize hT : ((List.range many).map (stR n R part sh p b many)).map IL = T at e c2
  have f1 : fzg (S ++ [G] ++ [T]) S.length 3 S.length = some (.lst G) := by
    simp only [fzg, Nat.lt_irrefl, if_false, get_two, maps_closed c1, Option.map_some]
  have f2 : fzg (S ++ [G] ++ [T]) S.length 3 (S.length + 1) = some (.lst T) := by
    have h : ¬ S.length + 1 < S.length := by omega
    simp only [fzg, h, if_false, get_two2, maps_closed c2, Option.map_some]
  have f3 : mapRef (fzg (S ++ [G] ++ [T]) S.length 3) (IL (stL n R part sh p many)) = some (IL (stL n R part sh p many)) := map_closed c3
  have fz_ : fz (S ++ ([G] ++ [T])) S.length (.tup [.ref S.length, .ref (S.length + 1), IL (stL n R part sh p many)]) = some (dueT n R part sh p b many) := by
    rw [← List.append_assoc]
    unfold fz dueT
    generalize IL (stL n R part sh p many) = z at f3
    simp only [mapRef, mapRefs, f1, f2, f3, Option.map_some]
    rw [← hG, ← hT]
    rfl
  refine fn_rtF (E := [G] ++ [T]) ?_ fz_
  rw [← List.append_assoc]
  simp only [D__law_dues]
  rw [show startD ["_law_web_here", "_law_manner", "_law_marks", "_law_place", "_law_bottom", "_law_many", "_law_size", "_law_rest", "_law_stands", "_law_i", "_law_goes", "_law_stays", "_law_t", "_law_share_here", "_law_scale", "_law_gone", "_law_j"] [wb R m, .str s, .tup ms, .int (p : Nat), .int b, .int (many : Nat)] = [some (wb R m), some (.str s), some (.tup ms), some (.int (p : Nat)), some (.int b), some (.int (many : Nat)), none, none, none, none, none, none, none, none, none, none, none] from rfl]
  have sz : dCall oLen (dCons (dBin oIx (dVar 0) (dC (.int 0))) (dNil)) [some (wb R m), some (.str s), some (.tup ms), some (.int (p : Nat)), some (.int b), some (.int (many : Nat)), none, none, none, none, none, none, none, none, none, none, none] S = some (.ok (.int (n : Nat)) S) := x_c1 (x_bin rfl rfl (e_ix0 _ _ S)) (by rw [e_lenT, List.length_map, w.len])
  have l8 : dLc [9] (dRange1 (dVar 6)) (.one 9) (dYes) (dCall oInt1 (dCons (dBin oEq (dVar 9) (dVar 3)) (dNil))) [some (wb R m), some (.str s), some (.tup ms), some (.int (p : Nat)), some (.int b), some (.int (many : Nat)), some (.int (n : Nat)), some (.int ((b * b) ^ many)), none, none, none, none, none, none, none, none, none] S = some (.ok (IL (stL n R part sh p 0)) S) :=
    lcI_rangeK 9 n (stF n R part sh p 0) (range1_of (n := n) rfl (by omega)) (fun i hi T => x_c1 (x_bin rfl rfl (o_eqI _ _ T)) (by
      show some (Res.ok (.int (if ((i : Int) == (p : Int)) = true then 1 else 0)) T) = some (Res.ok (.int (if i = p then 1 else 0)) T)
      rw [ne_nat]
      by_cases z : i = p <;> simp [z])) (by omega)
  have rg : ∀ V, dRange1 (dVar 5) (duE n R m s ms p b many S.length ((b * b) ^ many) (stL n R part sh p 0) none none none none) V = some (.ok ((List.range' 0 many).map fun i => D.int (i : Nat)) none V) := fun V => by
    rw [range1_of (n := many) rfl (by omega), rgD_map, List.range_eq_range']
  refine q_set sz ?_
  refine q_set (pows (i := 4) (j := 5) (by omega) b2 rfl rfl m4) ?_
  refine q_set l8 ?_
  refine q_set (d := .ref S.length) (S1 := S ++ [[]]) rfl ?_
  refine q_set (d := .ref (S.length + 1)) (S1 := S ++ [[]] ++ [[]]) (by rw [e_lstM]; show some (Res.ok (.ref (S ++ [[]]).length) _) = _; rw [List.length_append]; rfl) ?_
  refine q_nx ((for_of (rg _)).trans e) ?_
  exact q_ret (x_tup (y_cons rfl (y_cons rfl (y_cons rfl y_nil))) rfl)
end
end My
set_option Elab.async false
set_option linter.all false
set_option maxRecDepth 100000
set_option maxHeartbeats 1000000
set_option exponentiation.threshold 20000
namespace My
open PySem PySem.Spec PyProof.Rows L2 PD
/-! ### the store of the law's counting: goes, stays, stands, and what lies behind them -/
def AD (S : Store) (Gs Ts : List (List Int)) (st : List Int) (E : Store) : Store := ST (ST S Gs) Ts ++ [st.map .int] ++ E
section
variable {S E : Store} {Gs Ts : List (List Int)} {st r : List Int} {t : Nat}
theorem AD_G0 (S : Store) (Gs Ts : List (List Int)) (st : List Int) (E : Store) : ∃ E', AD S Gs Ts st E = ST S Gs ++ E' := ⟨_, by
  unfold AD
  rw [show ST (ST S Gs) Ts = ST S Gs ++ (refs (ST S Gs).length Ts.length :: Ts.map fun x => x.map D.int) from rfl, List.append_assoc, List.append_assoc]⟩
theorem AD_g (S : Store) (Gs Ts : List (List Int)) (st : List Int) (E : Store) : (AD S Gs Ts st E)[S.length]? = some (refs S.length Gs.length) := by
  obtain ⟨E', e⟩ := AD_G0 S Gs Ts st E
  rw [e]
  exact ST_rows S E' Gs
theorem AD_gr (ht : t < Gs.length) : (AD S Gs Ts st E)[S.length + 1 + t]? = some ((Gs.getD t []).map .int) := by
  obtain ⟨E', e⟩ := AD_G0 S Gs Ts st E
  rw [e, ST_nums S E' Gs t ht]
  simp [List.getD, List.getElem?_eq_getElem ht]
theorem AD_gs (ht : t < Gs.length) (r : List Int) : (AD S Gs Ts st E).set (S.length + 1 + t) (r.map .int) = AD S (Gs.set t r) Ts st E := by
  have l1 : S.length + 1 + t < (ST S Gs).length := by rw [ST_len]; omega
  have l2 : (ST S (Gs.set t r)).length = (ST S Gs).length := by rw [ST_len, ST_len, List.length_set]
  unfold AD
  rw [List.append_assoc, List.set_append_left _ _ (by rw [ST_len]; omega)]
  rw [show ST (ST S Gs) Ts = ST S Gs ++ (refs (ST S Gs).length Ts.length :: Ts.map fun x => x.map D.int) from rfl, List.set_append_left _ _ l1, ST_row ht]
  rw [show ST (ST S (Gs.set t r)) Ts = ST S (Gs.set t r) ++ (refs (ST S (Gs.set t r)).length Ts.length :: Ts.map fun x => x.map D.int) from rfl, l2]
  simp only [List.append_assoc]
theorem AD_t (S : Store) (Gs Ts : List (List Int)) (st : List Int) (E : Store) : (AD S Gs Ts st E)[(ST S Gs).length]? = some (refs (ST S Gs).length Ts.length) := by
  unfold AD
  rw [List.append_assoc]
  exact ST_rows (ST S Gs) _ Ts
theorem AD_tr (ht : t < Ts.length) : (AD S Gs Ts st E)[(ST S Gs).length + 1 + t]? = some ((Ts.getD t []).map .int) := by
  unfold AD
  rw [List.append_assoc, ST_nums (ST S Gs) _ Ts t ht]
  simp [List.getD, List.getElem?_eq_getElem ht]
theorem AD_ts (ht : t < Ts.length) (r : List Int) : (AD S Gs Ts st E).set ((ST S Gs).length + 1 + t) (r.map .int) = AD S Gs (Ts.set t r) st E := by
  unfold AD
  rw [List.append_assoc, List.set_append_left _ _ (by rw [ST_len (ST S Gs)]; omega), ST_row ht, List.append_assoc]
theorem AD_s (S : Store) (Gs Ts : List (List Int)) (st : List Int) (E : Store) : (AD S Gs Ts st E)[(ST (ST S Gs) Ts).length]? = some (st.map .int) := by
  unfold AD
  rw [List.append_assoc, List.getElem?_append_right (Nat.le_refl _), Nat.sub_self]
  rfl
theorem AD_ss (r : List Int) : (AD S Gs Ts st E).set (ST (ST S Gs) Ts).length (r.map .int) = AD S Gs Ts r E := by
  unfold AD
  rw [List.append_assoc, List.set_append_right _ _ (Nat.le_refl _), Nat.sub_self, List.append_assoc]
  rfl
theorem AD_app (S : Store) (Gs Ts : List (List Int)) (st : List Int) (E F : Store) : AD S Gs Ts st E ++ F = AD S Gs Ts st (E ++ F) := by
  unfold AD
  rw [List.append_assoc _ E F]
theorem AD_take (S : Store) (Gs Ts : List (List Int)) (st : List Int) (E : Store) : (AD S Gs Ts st E).take S.length = S := by
  obtain ⟨E', e⟩ := AD_G0 S Gs Ts st E
  rw [e]
  unfold ST
  simp
end
/-- a comprehension that makes a row of zeros at each turn -/
theorem zeros_lc {ρ : EnvD} {S : Store} {f g : Iens} {i j : Nat} (hij : i ≠ j) (many n : Nat) (hm : many ≤ 1000) (hn : n ≤ 1000) (hf : f ρ S = some (.ok (rgD 0 many) none S)) (hg : ∀ k V, g ((wipeD ρ [i]).set i (some (.int (k : Nat)))) V = some (.ok (rgD 0 n) none V)) :
    dLcM [i] f (.one i) dYes (dLcM [j] g (.one j) dYes (dC (.int 0))) ρ S = some (.ok (.ref S.length) (ST S (List.replicate many (List.replicate n 0)))) := by
  have elt : ∀ (k : Nat) (V : Store), dLcM [j] g (.one j) dYes (dC (.int 0)) ((wipeD ρ [i]).set i (some (.int (k : Nat)))) V = some (.ok (.ref V.length) (V ++ [(List.replicate n 0).map .int])) := fun k V => by
    have e := lcM_range (own := [j]) (t := .one j) (elt := dC (.int 0)) (f := g) (ρ := (wipeD ρ [i]).set i (some (.int (k : Nat)))) (S := V) n (fun _ => D.int 0) (fun q => (wipeD ((wipeD ρ [i]).set i (some (.int (k : Nat)))) [j]).set j (some (.int (q : Nat)))) (hg k V) (fun _ _ => rfl) (fun _ _ _ => rfl) (by omega)
    have z : (List.range n).map (fun _ => D.int 0) = (List.replicate n 0).map .int := by rw [List.map_const', List.length_range, List.map_replicate]
    rw [e, z]
  have loop : ∀ (q k : Nat), k + q ≤ many → lcLoop [i] (.one i) dYes (dLcM [j] g (.one j) dYes (dC (.int 0))) ρ S.length none (rgD 0 many) ((List.range' k q).map fun x => D.int (x : Nat)) (ST S (List.replicate k (List.replicate n 0))) = some (ST S (List.replicate (k + q) (List.replicate n 0))) := fun q => by
    induction q with
    | zero => intro k _; simp [lcLoop]
    | succ q ih =>
      intro k hk
      rw [List.range'_succ, List.map_cons]
      have g1 : (ST S (List.replicate k (List.replicate n (0 : Int))) ++ [(List.replicate n (0 : Int)).map D.int])[S.length]? = some (refs S.length (List.replicate k (List.replicate n (0 : Int))).length) := ST_rows S _ _
      simp only [lcLoop, Tg.go, dYes, if_true, elt, g1]
      rw [ST_snoc, if_pos ⟨by simp [refs]; omega, (trivial : ckOf none _ _)⟩, ← List.replicate_succ', ih (k + 1) (by omega), show k + 1 + q = k + (q + 1) by omega]
  have e := loop many 0 (by omega)
  rw [← List.range_eq_range', ← rgD_map, Nat.zero_add] at e
  generalize dLcM [j] g (.one j) dYes (dC (.int 0)) = el at e ⊢
  unfold dLcM
  rw [hf]
  have e0 : ST S (List.replicate 0 (List.replicate n (0 : Int))) = S ++ [[]] := rfl
  rw [e0] at e
  simp only [e, Option.map_some]
end My
set_option Elab.async false
set_option linter.all false
set_option maxRecDepth 100000
set_option maxHeartbeats 1000000
set_option exponentiation.threshold 20000
namespace My
open PySem PySem.Spec PyProof.Rows L2 PD
/-! ### a code's way and what it adds -/
def digs (bn : Nat) : Nat → Nat → List Di
  | 0, _ => []
  | k + 1, c => (lowP ((c % bn : Nat) : Int) bn, lowQ ((c % bn : Nat) : Int) bn, lowP ((c / bn % bn : Nat) : Int) bn, lowQ ((c / bn % bn : Nat) : Int) bn) :: digs bn k (c / (bn * bn))
theorem digs_len (bn : Nat) : ∀ (k c : Nat), (digs bn k c).length = k
  | 0, _ => rfl
  | k + 1, c => congrArg Nat.succ (digs_len bn k _)
theorem digs_ok {bn : Nat} (b1 : 1 ≤ bn) (b2 : bn < 200) : ∀ (k c : Nat), ∀ d ∈ digs bn k c, DiOk d
  | 0, _, d, h => by simp [digs] at h
  | k + 1, c, d, h => by
    rcases List.mem_cons.mp h with rfl | h
    · exact ⟨digit_die (Nat.mod_lt _ (by omega)) b2, digit_die (Nat.mod_lt _ (by omega)) b2⟩
    · exact digs_ok b1 b2 k _ d h
section
variable {n : Nat} {R : List (List Int)} {m : Int} {stay : Nat → Nat → Int → Int → Bool} {bn : Nat}
def goF (stay : Nat → Nat → Int → Int → Bool) (bn : Nat) (p t d : Nat) : Bool := !stay p t (lowP d bn) (lowQ d bn)
def toF (n : Nat) (R : List (List Int)) (m : Int) (bn p e : Nat) : Nat := toP n R m p (lowP e bn) (lowQ e bn)
theorem walk_ne : ∀ (ds : List Di) (t p : Nat), 1 ≤ (walk n R m stay t p ds).1.length
  | [], t, p => by simp [walk]
  | d :: ds, t, p => by
    show 1 ≤ (if stay p t d.1 d.2.1 then (([p], true) : List Nat × Bool) else (p :: (walk n R m stay (t + 1) (toP n R m p d.2.2.1 d.2.2.2) ds).1, (walk n R m stay (t + 1) (toP n R m p d.2.2.1 d.2.2.2) ds).2)).1.length
    split <;> simp
/-- what a way adds -/
def wadd (A B : Nat → Nat → Int) (Z : Nat → Int) (t : Nat) (w : List Nat × Bool) : Int := (sI (w.1.length - 1) fun i => A (t + i) (w.1.getD i 0)) + if w.2 then B (t + (w.1.length - 1)) (w.1.getD (w.1.length - 1) 0) else Z (w.1.getD (w.1.length - 1) 0)
theorem walk_adds (A B : Nat → Nat → Int) (Z : Nat → Int) : ∀ (k t p c : Nat), adds bn (goF stay bn) (toF n R m bn) A B Z k t p c = wadd A B Z t (walk n R m stay t p (digs bn k c))
  | 0, t, p, c => by
    show Z p = (sI 0 _) + Z p
    simp [sI]
  | k + 1, t, p, c => by
    have ih := walk_adds A B Z k (t + 1) (toF n R m bn p (c / bn % bn)) (c / (bn * bn))
    have l1 := walk_ne (n := n) (R := R) (m := m) (stay := stay) (digs bn k (c / (bn * bn))) (t + 1) (toF n R m bn p (c / bn % bn))
    have hw : walk n R m stay t p (digs bn (k + 1) c) = if stay p t (lowP ((c % bn : Nat) : Int) bn) (lowQ ((c % bn : Nat) : Int) bn) then (([p], true) : List Nat × Bool) else (p :: (walk n R m stay (t + 1) (toF n R m bn p (c / bn % bn)) (digs bn k (c / (bn * bn)))).1, (walk n R m stay (t + 1) (toF n R m bn p (c / bn % bn)) (digs bn k (c / (bn * bn)))).2) := rfl
    have ha : adds bn (goF stay bn) (toF n R m bn) A B Z (k + 1) t p c = if goF stay bn p t (c % bn) then A t p + adds bn (goF stay bn) (toF n R m bn) A B Z k (t + 1) (toF n R m bn p (c / bn % bn)) (c / (bn * bn)) else B t p := rfl
    have hg : goF stay bn p t (c % bn) = !stay p t (lowP ((c % bn : Nat) : Int) bn) (lowQ ((c % bn : Nat) : Int) bn) := rfl
    rw [ha, hw, hg, ih]
    generalize walk n R m stay (t + 1) (toF n R m bn p (c / bn % bn)) (digs bn k (c / (bn * bn))) = w at l1
    cases stay p t (lowP ((c % bn : Nat) : Int) bn) (lowQ ((c % bn : Nat) : Int) bn)
    · simp only [Bool.not_false, if_true, Bool.false_eq_true, if_false]
      obtain ⟨ws, fin⟩ := w
      obtain ⟨L, hL⟩ : ∃ L, ws.length = L + 1 := ⟨ws.length - 1, by simp at l1; omega⟩
      unfold wadd
      simp only [List.length_cons, hL, Nat.add_sub_cancel]
      rw [Nat.add_comm L 1, sI_split]
      have s1 : (sI 1 fun i => A (t + i) ((p :: ws).getD i 0)) = A t p := by simp [sI]
      have s2 : (sI L fun i => A (t + (1 + i)) ((p :: ws).getD (1 + i) 0)) = sI L fun i => A (t + 1 + i) (ws.getD i 0) := sI_congr fun i _ => by
        rw [Nat.add_comm 1 i, show t + (i + 1) = t + 1 + i by omega]
        rfl
      have s3 : (p :: ws).getD (1 + L) 0 = ws.getD L 0 := by rw [Nat.add_comm 1 L]; rfl
      rw [s1, s2, s3, show t + (1 + L) = t + 1 + L by omega]
      omega
    · simp only [Bool.not_true, Bool.false_eq_true, if_false, if_true]
      unfold wadd
      simp [sI]
end
end My
set_option Elab.async false
set_option linter.all false
set_option maxRecDepth 100000
set_option maxHeartbeats 1000000
set_option exponentiation.threshold 20000
namespace My
open PySem PySem.Spec PyProof.Rows L2 PD
/-! ### the dice of a code -/
abbrev alE (n : Nat) (R : List (List Int)) (m : Int) (s : Str) (ms : D) (p bn many : Nat) (dice : D) (g t st : Nat) (r10 r14 r15 r16 r17 r18 : Option D) : EnvD := [some (wb R m), some (.str s), some ms, some (.int (p : Nat)), some (.int (bn : Nat)), some (.int (many : Nat)), some (.int (n : Nat)), some dice, none, some (.ref g), r10, none, some (.ref t), some (.ref st), r14, r15, r16, r17, r18]
def diceD (bn : Nat) : D := .lst ((List.range bn).map fun k => pr (lowP (k : Nat) bn) (lowQ (k : Nat) bn))
noncomputable abbrev pairsB : SDen := (sSeq (sExpr (dApp (dVar 15) (dTup (dCons (dBin oIx (dVar 7) (dBin oMod (dCall oInt1 (dCons (dVar 14) (dNil))) (dVar 4))) (dCons (dBin oIx (dVar 7) (dBin oMod (dCall oInt1 (dCons (dBin oDiv (dVar 14) (dVar 4)) (dNil))) (dVar 4))) (dNil)))))) (sSeq (sSet 14 (dBin oDiv (dVar 14) (dBin oMul (dVar 4) (dVar 4)))) (sNil)))
section
variable {n : Nat} {R : List (List Int)} {m : Int} {s : Str} {ms : D} {p bn many g t st : Nat}
theorem diceD_get {k : Nat} (hk : k < bn) (V : Store) : oIx (diceD bn) (.int (k : Nat)) V = some (.ok (pr (lowP (k : Nat) bn) (lowQ (k : Nat) bn)) V) := by
  refine ixLst ?_ V
  rw [List.getElem?_map, List.getElem?_range hk]
  rfl
theorem pairs_loop (b1 : 1 ≤ bn) (b2 : bn ≤ 60) (V : Store) (r16 r17 r18 : Option D) (all : List D) : ∀ (j k c : Nat) (pre : List Di) (r10 : Option D), pre.length + j ≤ 1000 →
    ∃ q10 c', forLoop none all (tName 10) pairsB ((List.range' k j).map fun i => D.int (i : Nat)) (alE n R m s ms p bn many (diceD bn) g t st r10 (some (.int (c : Nat))) (some (.ref V.length)) r16 r17 r18) (V ++ [pre.map diD]) = some (.nx (alE n R m s ms p bn many (diceD bn) g t st q10 (some (.int (c' : Nat))) (some (.ref V.length)) r16 r17 r18) (V ++ [(pre ++ digs bn j c).map diD]))
  | 0, k, c, pre, r10, _ => ⟨r10, c, by rw [show digs bn 0 c = [] from rfl, List.append_nil]; rfl⟩
  | j + 1, k, c, pre, r10, hl => by
    obtain ⟨q10, c', ih⟩ := pairs_loop b1 b2 V r16 r17 r18 all j (k + 1) (c / (bn * bn)) (pre ++ [(lowP ((c % bn : Nat) : Int) bn, lowQ ((c % bn : Nat) : Int) bn, lowP ((c / bn % bn : Nat) : Int) bn, lowQ ((c / bn % bn : Nat) : Int) bn)]) (some (.int (k : Nat))) (by simp; omega)
    have sb : small (bn : Int) := sm60 (by omega) (by omega)
    have lgb : ((bn : Nat) : Int).natAbs.log2 < 9000 := by have := log_small sb; omega
    have sbb : small ((bn : Int) * bn) := by
      have h : (0 : Int) ≤ bn * bn ∧ (bn : Int) * bn ≤ 3600 := ⟨Int.mul_nonneg (by omega) (by omega), by
        have := Int.mul_le_mul (show (bn : Int) ≤ 60 by omega) (show (bn : Int) ≤ 60 by omega) (by omega) (by decide)
        omega⟩
      exact sm31 h.1 (by omega)
    have lgbb : ((bn : Int) * bn).natAbs.log2 < 9000 := by have := log_small sbb; omega
    have bb0 : (0 : Int) < (bn : Int) * bn := Int.mul_pos (by omega) (by omega)
    have i1 : dBin oMod (dCall oInt1 (dCons (dVar 14) (dNil))) (dVar 4) (alE n R m s ms p bn many (diceD bn) g t st (some (.int (k : Nat))) (some (.int (c : Nat))) (some (.ref V.length)) r16 r17 r18) (V ++ [pre.map diD]) = some (.ok (.int ((c % bn : Nat) : Int)) (V ++ [pre.map diD])) := by
      rw [Int.natCast_emod]
      exact x_bin (x_c1 rfl rfl) rfl (o_mod (by omega) _)
    have i2 : dBin oMod (dCall oInt1 (dCons (dBin oDiv (dVar 14) (dVar 4)) (dNil))) (dVar 4) (alE n R m s ms p bn many (diceD bn) g t st (some (.int (k : Nat))) (some (.int (c : Nat))) (some (.ref V.length)) r16 r17 r18) (V ++ [pre.map diD]) = some (.ok (.int ((c / bn % bn : Nat) : Int)) (V ++ [pre.map diD])) := by
      rw [Int.natCast_emod, Int.natCast_ediv]
      exact x_bin (x_c1 (x_bin rfl rfl (o_divI (by omega) lgb _)) rfl) rfl (o_mod (by omega) _)
    have tp := x_tup (y_cons (x_bin (f := dVar 7) rfl i1 (diceD_get (Nat.mod_lt _ (by omega)) _)) (y_cons (x_bin (f := dVar 7) rfl i2 (diceD_get (Nat.mod_lt _ (by omega)) _)) y_nil)) rfl
    have ap := p_app (ρ := alE n R m s ms p bn many (diceD bn) g t st (some (.int (k : Nat))) (some (.int (c : Nat))) (some (.ref V.length)) r16 r17 r18) (fo := dVar 15) (n := V.length) rfl tp (get_last V _) (by simp; omega)
    rw [set_last] at ap
    have d14 : dBin oDiv (dVar 14) (dBin oMul (dVar 4) (dVar 4)) (alE n R m s ms p bn many (diceD bn) g t st (some (.int (k : Nat))) (some (.int (c : Nat))) (some (.ref V.length)) r16 r17 r18) (V ++ [(pre ++ [(lowP ((c % bn : Nat) : Int) bn, lowQ ((c % bn : Nat) : Int) bn, lowP ((c / bn % bn : Nat) : Int) bn, lowQ ((c / bn % bn : Nat) : Int) bn)]).map diD]) = some (.ok (.int ((c / (bn * bn) : Nat) : Int)) (V ++ [(pre ++ [(lowP ((c % bn : Nat) : Int) bn, lowQ ((c % bn : Nat) : Int) bn, lowP ((c / bn % bn : Nat) : Int) bn, lowQ ((c / bn % bn : Nat) : Int) bn)]).map diD])) := by
      rw [Int.natCast_ediv, Int.natCast_mul]
      exact x_bin rfl (x_bin rfl rfl (e_mulI sb sb _)) (o_divI bb0 lgbb _)
    rw [List.append_assoc, show [(lowP ((c % bn : Nat) : Int) bn, lowQ ((c % bn : Nat) : Int) bn, lowP ((c / bn % bn : Nat) : Int) bn, lowQ ((c / bn % bn : Nat) : Int) bn)] ++ digs bn j (c / (bn * bn)) = digs bn (j + 1) c from rfl] at ih
    refine ⟨q10, c', loopS_cons rfl (q_expr (d := .non) (S1 := V ++ [(pre ++ [(lowP ((c % bn : Nat) : Int) bn, lowQ ((c % bn : Nat) : Int) bn, lowP ((c / bn % bn : Nat) : Int) bn, lowQ ((c / bn % bn : Nat) : Int) bn)]).map diD]) ?_ (q_set d14 rfl)) ih⟩
    rw [List.map_append]
    exact ap
end
end My
set_option Elab.async false
set_option linter.all false
set_option maxRecDepth 100000
set_option maxHeartbeats 1000000
set_option exponentiation.threshold 20000
namespace My
open PySem PySem.Spec PyProof.Rows L2 PD
/-! ### a way counted -/
structure Mat (k n : Nat) (Gs : List (List Int)) : Prop where
  len : Gs.length = k
  row : ∀ t < k, (Gs.getD t []).length = n
def inc2 (Gs : List (List Int)) (t q : Nat) : List (List Int) := Gs.set t ((Gs.getD t []).set q (gt (Gs.getD t []) q + 1))
theorem Mat.inc {k n : Nat} {Gs : List (List Int)} (h : Mat k n Gs) {t q : Nat} (ht : t < k) (hq : q < n) : Mat k n (inc2 Gs t q) ∧ ∀ t0 < k, ∀ q0 < n, at2 (inc2 Gs t q) t0 q0 = at2 Gs t0 q0 + if t0 = t ∧ q0 = q then 1 else 0 := by
  have tl : t < Gs.length := by rw [h.len]; exact ht
  have r := h.row t ht
  refine ⟨⟨by simp [inc2, h.len], fun t0 h0 => ?_⟩, fun t0 h0 q0 hq0 => ?_⟩
  · unfold inc2
    by_cases e : t0 = t
    · subst e
      simp only [List.getD, List.getElem?_set_self tl, Option.getD_some, List.length_set]
      exact r
    · have := h.row t0 h0
      simpa [List.getD, List.getElem?_set_ne (Ne.symm e)] using this
  · unfold inc2
    rw [at2_set tl]
    by_cases e : t0 = t
    · subst e
      rw [if_pos rfl, gt_set (by rw [r]; exact hq)]
      by_cases e2 : q0 = q
      · subst e2
        rw [if_pos rfl, if_pos ⟨rfl, rfl⟩]
        rfl
      · rw [if_neg e2, if_neg fun z => e2 z.2, Int.add_zero]
        rfl
    · rw [if_neg e, if_neg fun z => e z.1, Int.add_zero]
noncomputable abbrev goesB : SDen := (sSeq (sStore (dBin oPlus (dBin oIx (dBin oIx (dVar 9) (dVar 10)) (dBin oIx (dVar 17) (dVar 10))) (dC (.int 1))) (dBin oIx (dVar 9) (dVar 10)) (dBin oIx (dVar 17) (dVar 10))) (sNil))
section
variable {n : Nat} {R : List (List Int)} {m : Int} {s : Str} {ms : D} {p bn many : Nat} {S : Store}
theorem way_get {ws : List Nat} {k : Nat} (hk : k < ws.length) (V : Store) : oIx (.tup (wayD ws)) (.int (k : Nat)) V = some (.ok (.int ((ws.getD k 0 : Nat) : Int)) V) := by
  refine ixTup ?_ V
  unfold wayD
  rw [List.getElem?_map, List.getElem?_eq_getElem hk]
  simp [List.getD, List.getElem?_eq_getElem hk]
theorem goes_loop {ws : List Nat} (hw : ∀ q ∈ ws, q < n) (Ts : List (List Int)) (st : List Int) (E : Store) (t' s' : Nat) (r14 r15 r16 r18 : Option D) (all : List D) : ∀ (j k : Nat) (Gs : List (List Int)) (r10 : Option D), k + j < ws.length → k + j ≤ many → Mat many n Gs →
    ∃ (Gs' : List (List Int)) (q10 : Option D), Mat many n Gs' ∧ (∀ t0 < many, ∀ q0 < n, at2 Gs' t0 q0 = at2 Gs t0 q0 + if k ≤ t0 ∧ t0 < k + j ∧ q0 = ws.getD t0 0 then 1 else 0) ∧ forLoop none all (tName 10) goesB ((List.range' k j).map fun i => D.int (i : Nat)) (alE n R m s ms p bn many (diceD bn) S.length t' s' r10 r14 r15 r16 (some (.tup (wayD ws))) r18) (AD S Gs Ts st E) = some (.nx (alE n R m s ms p bn many (diceD bn) S.length t' s' q10 r14 r15 r16 (some (.tup (wayD ws))) r18) (AD S Gs' Ts st E))
  | 0, k, Gs, r10, _, _, h => ⟨Gs, r10, h, fun t0 _ q0 _ => by rw [if_neg (by omega), Int.add_zero], rfl⟩
  | j + 1, k, Gs, r10, hk, hm, h => by
    have kl : k < ws.length := by omega
    have qn : ws.getD k 0 < n := by
      rw [List.getD, List.getElem?_eq_getElem kl]
      exact hw _ (List.getElem_mem kl)
    have kg : k < Gs.length := by rw [h.len]; omega
    have rl := h.row k (by omega)
    obtain ⟨h1, h2⟩ := h.inc (show k < many by omega) qn
    have row := AD_gr (S := S) (E := E) (Ts := Ts) (st := st) kg
    have rr : dBin oIx (dVar 9) (dVar 10) (alE n R m s ms p bn many (diceD bn) S.length t' s' (some (.int (k : Nat))) r14 r15 r16 (some (.tup (wayD ws))) r18) (AD S Gs Ts st E) = some (.ok (.ref (S.length + 1 + k)) (AD S Gs Ts st E)) := x_bin rfl rfl (ixRef (n := S.length) (AD_g S Gs Ts st E) (refs_get kg))
    have rw_ : dBin oIx (dVar 17) (dVar 10) (alE n R m s ms p bn many (diceD bn) S.length t' s' (some (.int (k : Nat))) r14 r15 r16 (some (.tup (wayD ws))) r18) (AD S Gs Ts st E) = some (.ok (.int ((ws.getD k 0 : Nat) : Int)) (AD S Gs Ts st E)) := x_bin rfl rfl (way_get kl _)
    generalize hq : ws.getD k 0 = q at qn h1 h2 rw_
    have ru : oIx (.ref (S.length + 1 + k)) (.int (q : Nat)) (AD S Gs Ts st E) = some (.ok (.int (gt (Gs.getD k []) q)) (AD S Gs Ts st E)) := ixAny (show asSeq (AD S Gs Ts st E) (.ref (S.length + 1 + k)) = _ from row) (by rw [rl]; exact qn)
    have stv := p_set (k := ((q : Nat) : Int)) (v := .int (gt (Gs.getD k []) q + 1)) (fe := dBin oPlus (dBin oIx (dBin oIx (dVar 9) (dVar 10)) (dBin oIx (dVar 17) (dVar 10))) (dC (.int 1))) (x_bin (x_bin rr rw_ ru) rfl rfl) rr rw_ row (j := q) (by
      simp only [ixN]
      rw [if_pos (by omega), if_pos (by rw [List.length_map, rl]; omega), Int.toNat_natCast])
    rw [show ((Gs.getD k []).map D.int).set q (.int (gt (Gs.getD k []) q + 1)) = ((Gs.getD k []).set q (gt (Gs.getD k []) q + 1)).map .int by rw [List.map_set], AD_gs kg] at stv
    obtain ⟨Gs', q10, i1, i2, e2⟩ := goes_loop hw Ts st E t' s' r14 r15 r16 r18 all j (k + 1) (inc2 Gs k q) (some (.int (k : Nat))) (by omega) (by omega) h1
    refine ⟨Gs', q10, i1, fun t0 h0 q0 hq0 => ?_, loopS_cons rfl (q_nx stv rfl) e2⟩
    rw [i2 t0 h0 q0 hq0, h2 t0 h0 q0 hq0]
    by_cases z : t0 = k
    · subst z
      rw [if_neg (show ¬ (t0 + 1 ≤ t0 ∧ _) from fun y => by omega), hq]
      by_cases y : q0 = q
      · rw [if_pos ⟨rfl, y⟩, if_pos ⟨Nat.le_refl _, by omega, y⟩]
        omega
      · rw [if_neg fun u => y u.2, if_neg fun u => y u.2.2]
        omega
    · rw [if_neg (show ¬ (t0 = k ∧ q0 = q) from fun u => z u.1)]
      by_cases y : k + 1 ≤ t0 ∧ t0 < k + 1 + j ∧ q0 = ws.getD t0 0
      · rw [if_pos y, if_pos ⟨by omega, by omega, y.2.2⟩]
        omega
      · rw [if_neg y, if_neg fun u => y ⟨by omega, by omega, u.2.2⟩]
        omega
end
end My
set_option Elab.async false
set_option linter.all false
set_option maxRecDepth 100000
set_option maxHeartbeats 1000000
set_option exponentiation.threshold 20000
namespace My
open PySem PySem.Spec PyProof.Rows L2 PD
noncomputable abbrev lastB : SDen := (sIf (dTru (dBin oIx (dVar 16) (dC (.int 1)))) (sSeq (sStore (dBin oPlus (dBin oIx (dBin oIx (dVar 12) (dVar 18)) (dBin oIx (dVar 17) (dVar 18))) (dC (.int 1))) (dBin oIx (dVar 12) (dVar 18)) (dBin oIx (dVar 17) (dVar 18))) (sNil)) (sSeq (sStore (dBin oPlus (dBin oIx (dVar 13) (dBin oIx (dVar 17) (dVar 18))) (dC (.int 1))) (dVar 13) (dBin oIx (dVar 17) (dVar 18))) (sNil)))
section
variable {n : Nat} {R : List (List Int)} {m : Int} {s : Str} {ms : D} {p bn many : Nat} {S E : Store}
/-- the end of a way counted -/
theorem last_turn {w : List Nat × Bool} (hw : WayOk n p many w) {Gs Ts : List (List Int)} {st : List Int} (hT : Mat many n Ts) (hs : st.length = n) (r10 r14 r15 : Option D) :
    ∃ (Ts' : List (List Int)) (st' : List Int), Mat many n Ts' ∧ st'.length = n ∧
      (∀ t0 < many, ∀ q0 < n, at2 Ts' t0 q0 = at2 Ts t0 q0 + if w.2 = true ∧ t0 = w.1.length - 1 ∧ q0 = w.1.getD (w.1.length - 1) 0 then 1 else 0) ∧
      (∀ q0 < n, gt st' q0 = gt st q0 + if w.2 = false ∧ q0 = w.1.getD (w.1.length - 1) 0 then 1 else 0) ∧
      lastB (alE n R m s ms p bn many (diceD bn) S.length (ST S Gs).length (ST (ST S Gs) Ts).length r10 r14 r15 (some (.tup [.tup (wayD w.1), .bl w.2])) (some (.tup (wayD w.1))) (some (.int ((w.1.length - 1 : Nat) : Int)))) (AD S Gs Ts st E) = some (.nx (alE n R m s ms p bn many (diceD bn) S.length (ST S Gs).length (ST (ST S Gs) Ts).length r10 r14 r15 (some (.tup [.tup (wayD w.1), .bl w.2])) (some (.tup (wayD w.1))) (some (.int ((w.1.length - 1 : Nat) : Int)))) (AD S Gs Ts' st' E)) := by
  obtain ⟨ws, fin⟩ := w
  obtain ⟨rest, hr⟩ := hw.head
  simp only at hr hw ⊢
  have l1 : 1 ≤ ws.length := by rw [hr]; simp
  have kl : ws.length - 1 < ws.length := by omega
  have qn : ws.getD (ws.length - 1) 0 < n := by
    rw [List.getD, List.getElem?_eq_getElem kl]
    exact hw.lt _ (List.getElem_mem kl)
  have wg := way_get (ws := ws) kl (AD S Gs Ts st E)
  generalize hk : ws.length - 1 = k at kl wg qn
  generalize hq : ws.getD k 0 = q at qn wg
  have c : dTru (dBin oIx (dVar 16) (dC (.int 1))) (alE n R m s ms p bn many (diceD bn) S.length (ST S Gs).length (ST (ST S Gs) Ts).length r10 r14 r15 (some (.tup [.tup (wayD ws), .bl fin])) (some (.tup (wayD ws))) (some (.int ((k : Nat) : Int)))) (AD S Gs Ts st E) = some (.ok (.bl fin) (AD S Gs Ts st E)) := x_tru (x_bin rfl rfl (e_ix1 _ _ _ _)) rfl
  have rw_ : dBin oIx (dVar 17) (dVar 18) (alE n R m s ms p bn many (diceD bn) S.length (ST S Gs).length (ST (ST S Gs) Ts).length r10 r14 r15 (some (.tup [.tup (wayD ws), .bl fin])) (some (.tup (wayD ws))) (some (.int ((k : Nat) : Int)))) (AD S Gs Ts st E) = some (.ok (.int ((q : Nat) : Int)) (AD S Gs Ts st E)) := x_bin rfl rfl wg
  cases fin
  · refine ⟨Ts, st.set q (gt st q + 1), hT, by rw [List.length_set, hs], fun t0 _ q0 _ => by simp, fun q0 hq0 => ?_, ?_⟩
    · rw [gt_set (by rw [hs]; exact qn)]
      by_cases z : q0 = q
      · subst z; simp
      · simp [z]
    · have rs : dVar 13 (alE n R m s ms p bn many (diceD bn) S.length (ST S Gs).length (ST (ST S Gs) Ts).length r10 r14 r15 (some (.tup [.tup (wayD ws), .bl false])) (some (.tup (wayD ws))) (some (.int ((k : Nat) : Int)))) (AD S Gs Ts st E) = some (.ok (.ref (ST (ST S Gs) Ts).length) (AD S Gs Ts st E)) := rfl
      have ru : oIx (.ref (ST (ST S Gs) Ts).length) (.int (q : Nat)) (AD S Gs Ts st E) = some (.ok (.int (gt st q)) (AD S Gs Ts st E)) := ixAny (show asSeq (AD S Gs Ts st E) (.ref (ST (ST S Gs) Ts).length) = _ from AD_s S Gs Ts st E) (by rw [hs]; exact qn)
      have stv := p_set (k := ((q : Nat) : Int)) (v := .int (gt st q + 1)) (fe := dBin oPlus (dBin oIx (dVar 13) (dBin oIx (dVar 17) (dVar 18))) (dC (.int 1))) (x_bin (x_bin rs rw_ ru) rfl rfl) rs rw_ (AD_s S Gs Ts st E) (j := q) (by
        simp only [ixN]
        rw [if_pos (by omega), if_pos (by rw [List.length_map, hs]; omega), Int.toNat_natCast])
      rw [show (st.map D.int).set q (.int (gt st q + 1)) = (st.set q (gt st q + 1)).map .int by rw [List.map_set], AD_ss] at stv
      show (sIf _ _ _) _ _ = _
      rw [e_if, c]
      exact q_nx stv rfl
  · have kt : k < many := by
      have := hw.yes rfl
      simp only at this
      omega
    have tl : k < Ts.length := by rw [hT.len]; exact kt
    obtain ⟨h1, h2⟩ := hT.inc kt qn
    refine ⟨inc2 Ts k q, st, h1, hs, fun t0 h0 q0 hq0 => ?_, fun q0 _ => by simp, ?_⟩
    · rw [h2 t0 h0 q0 hq0]
      simp
    · have rr : dBin oIx (dVar 12) (dVar 18) (alE n R m s ms p bn many (diceD bn) S.length (ST S Gs).length (ST (ST S Gs) Ts).length r10 r14 r15 (some (.tup [.tup (wayD ws), .bl true])) (some (.tup (wayD ws))) (some (.int ((k : Nat) : Int)))) (AD S Gs Ts st E) = some (.ok (.ref ((ST S Gs).length + 1 + k)) (AD S Gs Ts st E)) := x_bin rfl rfl (ixRef (n := (ST S Gs).length) (AD_t S Gs Ts st E) (refs_get tl))
      have row := AD_tr (S := S) (E := E) (Gs := Gs) (st := st) tl
      have rl := hT.row k kt
      have ru : oIx (.ref ((ST S Gs).length + 1 + k)) (.int (q : Nat)) (AD S Gs Ts st E) = some (.ok (.int (gt (Ts.getD k []) q)) (AD S Gs Ts st E)) := ixAny (show asSeq (AD S Gs Ts st E) (.ref ((ST S Gs).length + 1 + k)) = _ from row) (by rw [rl]; exact qn)
      have stv := p_set (k := ((q : Nat) : Int)) (v := .int (gt (Ts.getD k []) q + 1)) (fe := dBin oPlus (dBin oIx (dBin oIx (dVar 12) (dVar 18)) (dBin oIx (dVar 17) (dVar 18))) (dC (.int 1))) (x_bin (x_bin rr rw_ ru) rfl rfl) rr rw_ row (j := q) (by
        simp only [ixN]
        rw [if_pos (by omega), if_pos (by rw [List.length_map, rl]; omega), Int.toNat_natCast])
      rw [show ((Ts.getD k []).map D.int).set q (.int (gt (Ts.getD k []) q + 1)) = ((Ts.getD k []).set q (gt (Ts.getD k []) q + 1)).map .int by rw [List.map_set], AD_ts tl] at stv
      show (sIf _ _ _) _ _ = _
      rw [e_if, c]
      exact q_nx stv rfl
end
end My
set_option Elab.async false
set_option linter.all false
set_option maxRecDepth 100000
set_option maxHeartbeats 1000000
set_option exponentiation.threshold 20000
namespace My
open PySem PySem.Spec PyProof.Rows L2 PD
/-! ### one place told of all that a code adds -/
def dA (t0 q0 t q : Nat) : Int := if t = t0 ∧ q = q0 then 1 else 0
def dZ (q0 q : Nat) : Int := if q = q0 then 1 else 0
def z2 (_ _ : Nat) : Int := 0
def z1 (_ : Nat) : Int := 0
theorem sI_at (L t0 : Nat) (f : Nat → Int) : (sI L fun i => if i = t0 then f i else 0) = if t0 < L then f t0 else 0 := by
  induction L with
  | zero => simp [sI]
  | succ L ih =>
    rw [sI_succ, ih]
    by_cases h : t0 < L
    · rw [if_pos h, if_neg (by omega), if_pos (by omega)]
      omega
    · rw [if_neg h]
      by_cases e : L = t0
      · subst e
        rw [if_pos rfl, if_pos (by omega)]
        omega
      · rw [if_neg e, if_neg (by omega)]
        omega
theorem wadd_g (t0 q0 : Nat) (w : List Nat × Bool) : wadd (dA t0 q0) z2 z1 0 w = if 0 ≤ t0 ∧ t0 < 0 + (w.1.length - 1) ∧ q0 = w.1.getD t0 0 then 1 else 0 := by
  unfold wadd
  have e : (sI (w.1.length - 1) fun i => dA t0 q0 (0 + i) (w.1.getD i 0)) = sI (w.1.length - 1) fun i => if i = t0 then (if w.1.getD i 0 = q0 then 1 else 0) else 0 := sI_congr fun i _ => by
    unfold dA
    rw [Nat.zero_add]
    by_cases a : i = t0 <;> by_cases b : w.1.getD i 0 = q0 <;> simp only [a, b, and_self, and_true, true_and, and_false, false_and, if_true, if_false]
  rw [e, sI_at]
  have zz : (if w.2 = true then z2 (0 + (w.1.length - 1)) (w.1.getD (w.1.length - 1) 0) else z1 (w.1.getD (w.1.length - 1) 0)) = 0 := by split <;> rfl
  rw [zz, Int.add_zero, Nat.zero_add]
  by_cases h : t0 < w.1.length - 1
  · rw [if_pos h]
    by_cases y : w.1.getD t0 0 = q0
    · rw [if_pos y, if_pos ⟨by omega, h, y.symm⟩]
    · rw [if_neg y, if_neg fun u => y u.2.2.symm]
  · rw [if_neg h, if_neg fun u => h u.2.1]
theorem wadd_t (t0 q0 : Nat) (w : List Nat × Bool) : wadd z2 (dA t0 q0) z1 0 w = if w.2 = true ∧ t0 = w.1.length - 1 ∧ q0 = w.1.getD (w.1.length - 1) 0 then 1 else 0 := by
  unfold wadd
  rw [show (sI (w.1.length - 1) fun i => z2 (0 + i) (w.1.getD i 0)) = 0 from sI_zero _, Int.zero_add, Nat.zero_add]
  unfold dA z1
  cases w.2
  · simp
  · simp only [if_true, true_and]
    by_cases h : w.1.length - 1 = t0 ∧ w.1.getD (w.1.length - 1) 0 = q0
    · rw [if_pos h, if_pos ⟨h.1.symm, h.2.symm⟩]
    · rw [if_neg h, if_neg fun u => h ⟨u.1.symm, u.2.symm⟩]
theorem wadd_z (q0 : Nat) (w : List Nat × Bool) : wadd z2 z2 (dZ q0) 0 w = if w.2 = false ∧ q0 = w.1.getD (w.1.length - 1) 0 then 1 else 0 := by
  unfold wadd
  rw [show (sI (w.1.length - 1) fun i => z2 (0 + i) (w.1.getD i 0)) = 0 from sI_zero _, Int.zero_add]
  unfold dZ z2
  cases w.2
  · simp only [Bool.false_eq_true, if_false, true_and]
    by_cases h : w.1.getD (w.1.length - 1) 0 = q0
    · rw [if_pos h, if_pos h.symm]
    · rw [if_neg h, if_neg fun u => h u.symm]
  · simp
end My
set_option Elab.async false
set_option linter.all false
set_option maxRecDepth 100000
set_option maxHeartbeats 1000000
set_option exponentiation.threshold 20000
namespace My
open PySem PySem.Spec PyProof.Rows L2 PD
noncomputable abbrev codeB : SDen := (sSeq (sSet 15 (dLstM (dNil))) (sSeq (sFor (dRange1 (dVar 5)) (tName 10) (sSeq (sExpr (dApp (dVar 15) (dTup (dCons (dBin oIx (dVar 7) (dBin oMod (dCall oInt1 (dCons (dVar 14) (dNil))) (dVar 4))) (dCons (dBin oIx (dVar 7) (dBin oMod (dCall oInt1 (dCons (dBin oDiv (dVar 14) (dVar 4)) (dNil))) (dVar 4))) (dNil)))))) (sSeq (sSet 14 (dBin oDiv (dVar 14) (dBin oMul (dVar 4) (dVar 4)))) (sNil)))) (sSeq (sSet 16 (dFn 5 O_led (dCons (dVar 0) (dCons (dVar 1) (dCons (dVar 2) (dCons (dVar 3) (dCons (dCall oTuple1 (dCons (dVar 15) (dNil))) (dNil)))))))) (sSeq (sIf (dNot (dTru (dFn 4 O__law_is_led (dCons (dVar 16) (dCons (dVar 6) (dCons (dVar 5) (dCons (dVar 3) (dNil)))))))) (sSeq (sRet (dC (.bl false))) (sNil)) (sNil)) (sSeq (sSet 17 (dBin oIx (dVar 16) (dC (.int 0)))) (sSeq (sFor (dRange1 (dBin oSub (dCall oLen (dCons (dVar 17) (dNil))) (dC (.int 1)))) (tName 10) (sSeq (sStore (dBin oPlus (dBin oIx (dBin oIx (dVar 9) (dVar 10)) (dBin oIx (dVar 17) (dVar 10))) (dC (.int 1))) (dBin oIx (dVar 9) (dVar 10)) (dBin oIx (dVar 17) (dVar 10))) (sNil))) (sSeq (sSet 18 (dBin oSub (dCall oLen (dCons (dVar 17) (dNil))) (dC (.int 1)))) (sSeq (sIf (dTru (dBin oIx (dVar 16) (dC (.int 1)))) (sSeq (sStore (dBin oPlus (dBin oIx (dBin oIx (dVar 12) (dVar 18)) (dBin oIx (dVar 17) (dVar 18))) (dC (.int 1))) (dBin oIx (dVar 12) (dVar 18)) (dBin oIx (dVar 17) (dVar 18))) (sNil)) (sSeq (sStore (dBin oPlus (dBin oIx (dVar 13) (dBin oIx (dVar 17) (dVar 18))) (dC (.int 1))) (dVar 13) (dBin oIx (dVar 17) (dVar 18))) (sNil))) (sNil)))))))))
section
variable {n : Nat} {R : List (List Int)} {m : Int} {s : Str} {M : D} {stay : Nat → Nat → Int → Int → Bool} {p bn many : Nat} {S : Store}
/-- one code counted -/
theorem code_turn (w : WK n R m) (hm : Man n s M stay) (b1 : 1 ≤ bn) (b2 : bn ≤ 60) (hp : p < n) (m4 : many ≤ 4) {Gs Ts : List (List Int)} {st : List Int} (hG : Mat many n Gs) (hT : Mat many n Ts) (hs : st.length = n) (E : Store) (c : Nat) (r10 r15 r16 r17 r18 : Option D) :
    ∃ (Gs' Ts' : List (List Int)) (st' : List Int) (E' : Store) (q10 q14 q15 q16 q17 q18 : Option D), Mat many n Gs' ∧ Mat many n Ts' ∧ st'.length = n ∧
      (∀ t0 < many, ∀ q0 < n, at2 Gs' t0 q0 = at2 Gs t0 q0 + adds bn (goF stay bn) (toF n R m bn) (dA t0 q0) z2 z1 many 0 p c) ∧
      (∀ t0 < many, ∀ q0 < n, at2 Ts' t0 q0 = at2 Ts t0 q0 + adds bn (goF stay bn) (toF n R m bn) z2 (dA t0 q0) z1 many 0 p c) ∧
      (∀ q0 < n, gt st' q0 = gt st q0 + adds bn (goF stay bn) (toF n R m bn) z2 z2 (dZ q0) many 0 p c) ∧
      codeB (alE n R m s M p bn many (diceD bn) S.length (ST S Gs).length (ST (ST S Gs) Ts).length r10 (some (.int (c : Nat))) r15 r16 r17 r18) (AD S Gs Ts st E) = some (.nx (alE n R m s M p bn many (diceD bn) S.length (ST S Gs).length (ST (ST S Gs) Ts).length q10 q14 q15 q16 q17 q18) (AD S Gs' Ts' st' E')) := by
  obtain ⟨q10, c', e1⟩ := pairs_loop (n := n) (R := R) (m := m) (s := s) (ms := M) (p := p) (many := many) (g := S.length) (t := (ST S Gs).length) (st := (ST (ST S Gs) Ts).length) b1 b2 (AD S Gs Ts st E) r16 r17 r18 ((List.range' 0 many).map fun i => D.int (i : Nat)) many 0 c [] r10 (by simp; omega)
  rw [List.nil_append] at e1
  have ok := digs_ok b1 (show bn < 200 by omega) many c
  have dl := digs_len bn many c
  have wo := walk_ok (stay := stay) w (digs bn many c) 0 p hp ok
  rw [dl] at wo
  have wa := fun A B Z => walk_adds (n := n) (R := R) (m := m) (stay := stay) (bn := bn) A B Z many 0 p c
  have led_ := v_led w hm hp ok (by rw [dl]; omega) (AD S Gs Ts st (E ++ [(digs bn many c).map diD]))
  have il := v_is_led wo (AD S Gs Ts st (E ++ [(digs bn many c).map diD]))
  have gp : (AD S Gs Ts st (E ++ [(digs bn many c).map diD]))[(AD S Gs Ts st E).length]? = some ((digs bn many c).map diD) := by rw [← AD_app]; exact get_last _ _
  generalize walk n R m stay 0 p (digs bn many c) = wy at wo wa led_ il
  have hl : wy.1.length - 1 ≤ many := by
    cases e : wy.2
    · have := wo.no e; omega
    · have := wo.yes e; omega
  have l1 : 1 ≤ wy.1.length := by obtain ⟨rest, hr⟩ := wo.head; rw [hr]; simp
  obtain ⟨Gs', y10, g1, g2, e2⟩ := goes_loop (R := R) (m := m) (s := s) (ms := M) (p := p) (bn := bn) (many := many) (S := S) (ws := wy.1) wo.lt Ts st (E ++ [(digs bn many c).map diD]) (ST S Gs).length (ST (ST S Gs) Ts).length (some (.int (c' : Nat))) (some (.ref (AD S Gs Ts st E).length)) (some (.tup [.tup (wayD wy.1), .bl wy.2])) r18 ((List.range' 0 (wy.1.length - 1)).map fun i => D.int (i : Nat)) (wy.1.length - 1) 0 Gs q10 (by omega) (by omega) hG
  have lG : (ST S Gs').length = (ST S Gs).length := by rw [ST_len, ST_len, g1.len, hG.len]
  have lT : (ST (ST S Gs') Ts).length = (ST (ST S Gs) Ts).length := by rw [ST_len (ST S Gs'), ST_len (ST S Gs), lG]
  obtain ⟨Ts', st', t1, t2, t3, t4, e3⟩ := last_turn (R := R) (m := m) (s := s) (ms := M) (p := p) (bn := bn) (S := S) (E := E ++ [(digs bn many c).map diD]) (Gs := Gs') wo hT hs y10 (some (.int (c' : Nat))) (some (.ref (AD S Gs Ts st E).length))
  rw [lG, lT] at e3
  refine ⟨Gs', Ts', st', E ++ [(digs bn many c).map diD], y10, some (.int (c' : Nat)), some (.ref (AD S Gs Ts st E).length), some (.tup [.tup (wayD wy.1), .bl wy.2]), some (.tup (wayD wy.1)), some (.int ((wy.1.length - 1 : Nat) : Int)), g1, t1, t2, fun t0 h0 q0 hq0 => by rw [wa, wadd_g, g2 t0 h0 q0 hq0], fun t0 h0 q0 hq0 => by rw [wa, wadd_t, t3 t0 h0 q0 hq0], fun q0 hq0 => by rw [wa, wadd_z, t4 q0 hq0], ?_⟩
  have rg1 : ∀ V, dRange1 (dVar 5) (alE n R m s M p bn many (diceD bn) S.length (ST S Gs).length (ST (ST S Gs) Ts).length r10 (some (.int (c : Nat))) (some (.ref (AD S Gs Ts st E).length)) r16 r17 r18) V = some (.ok ((List.range' 0 many).map fun i => D.int (i : Nat)) none V) := fun V => by
    rw [range1_of (n := many) rfl (by omega), rgD_map, List.range_eq_range']
  have tp : ∀ (ρ : EnvD), ρ[15]? = some (some (.ref (AD S Gs Ts st E).length)) → dCall oTuple1 (dCons (dVar 15) (dNil)) ρ (AD S Gs Ts st (E ++ [(digs bn many c).map diD])) = some (.ok (.tup ((digs bn many c).map diD)) (AD S Gs Ts st (E ++ [(digs bn many c).map diD]))) := fun ρ hρ => by
    refine x_c1 (d1 := .ref (AD S Gs Ts st E).length) (by rw [e_var, hρ]) ?_
    show ((asList _ (.ref (AD S Gs Ts st E).length)).map fun xs => Res.ok (.tup xs) _) = _
    simp only [asList, gp, Option.map_some]
  have lnw : ∀ (ρ : EnvD) V, ρ[17]? = some (some (.tup (wayD wy.1))) → dBin oSub (dCall oLen (dCons (dVar 17) (dNil))) (dC (.int 1)) ρ V = some (.ok (.int ((wy.1.length - 1 : Nat) : Int)) V) := fun ρ V hρ => by
    refine x_bin (x_c1 (d1 := .tup (wayD wy.1)) (by rw [e_var, hρ]) (e_lenT _ _)) rfl ?_
    rw [o_subI]
    have : ((wayD wy.1).length : Int) - 1 = ((wy.1.length - 1 : Nat) : Int) := by
      have : (wayD wy.1).length = wy.1.length := by simp [wayD]
      omega
    rw [this]
  have rg2 : ∀ V, dRange1 (dBin oSub (dCall oLen (dCons (dVar 17) (dNil))) (dC (.int 1))) (alE n R m s M p bn many (diceD bn) S.length (ST S Gs).length (ST (ST S Gs) Ts).length q10 (some (.int (c' : Nat))) (some (.ref (AD S Gs Ts st E).length)) (some (.tup [.tup (wayD wy.1), .bl wy.2])) (some (.tup (wayD wy.1))) r18) V = some (.ok ((List.range' 0 (wy.1.length - 1)).map fun i => D.int (i : Nat)) none V) := fun V => by
    rw [range1_of (n := wy.1.length - 1) (lnw _ V rfl) (by omega), rgD_map, List.range_eq_range']
  rw [AD_app S Gs Ts st E [(digs bn many c).map diD], show ([] : List Di).map diD = [] from rfl] at e1
  refine q_set (d := .ref (AD S Gs Ts st E).length) (S1 := AD S Gs Ts st E ++ [[]]) rfl ?_
  refine q_nx ((for_of (rg1 _)).trans e1) ?_
  refine q_set (x_fn (y_cons (f := dVar 0) rfl (y_cons (f := dVar 1) rfl (y_cons (f := dVar 2) rfl (y_cons (f := dVar 3) rfl (y_cons (tp _ rfl) y_nil))))) rfl led_) ?_
  refine q_ifF (x_notT (x_f4 (f1 := dVar 16) (f2 := dVar 6) (f3 := dVar 5) (f4 := dVar 3) rfl rfl rfl rfl il)) ?_
  refine q_set (x_bin (f := dVar 16) rfl rfl (e_ix0 _ _ _)) ?_
  refine q_nx ((for_of (rg2 _)).trans e2) ?_
  refine q_set (lnw _ _ rfl) ?_
  exact q_nx e3 rfl
end
end My
set_option Elab.async false
set_option linter.all false
set_option maxRecDepth 100000
set_option maxHeartbeats 1000000
set_option exponentiation.threshold 20000
namespace My
open PySem PySem.Spec PyProof.Rows L2 PD
section
variable {n : Nat} {R : List (List Int)} {m : Int} {s : Str} {M : D} {stay : Nat → Nat → Int → Int → Bool} {p bn many : Nat} {S : Store}
theorem sI_head (f : Nat → Int) (j : Nat) : sI (j + 1) f = f 0 + sI j fun i => f (i + 1) := by
  rw [Nat.add_comm j 1, sI_split]
  have : sI 1 f = f 0 := by simp [sI]
  rw [this]
  congr 1
  exact sI_congr fun i _ => by rw [Nat.add_comm]
/-- all codes counted -/
theorem codes_loop (w : WK n R m) (hm : Man n s M stay) (b1 : 1 ≤ bn) (b2 : bn ≤ 60) (hp : p < n) (m4 : many ≤ 4) (tN sN : Nat) (all : List D) : ∀ (j k : Nat) (Gs Ts : List (List Int)) (st : List Int) (E : Store) (r10 r14 r15 r16 r17 r18 : Option D), Mat many n Gs → Mat many n Ts → st.length = n → tN = (ST S Gs).length → sN = (ST (ST S Gs) Ts).length →
    ∃ (Gs' Ts' : List (List Int)) (st' : List Int) (E' : Store) (q10 q14 q15 q16 q17 q18 : Option D), Mat many n Gs' ∧ Mat many n Ts' ∧ st'.length = n ∧ tN = (ST S Gs').length ∧ sN = (ST (ST S Gs') Ts').length ∧
      (∀ t0 < many, ∀ q0 < n, at2 Gs' t0 q0 = at2 Gs t0 q0 + sI j fun i => adds bn (goF stay bn) (toF n R m bn) (dA t0 q0) z2 z1 many 0 p (k + i)) ∧
      (∀ t0 < many, ∀ q0 < n, at2 Ts' t0 q0 = at2 Ts t0 q0 + sI j fun i => adds bn (goF stay bn) (toF n R m bn) z2 (dA t0 q0) z1 many 0 p (k + i)) ∧
      (∀ q0 < n, gt st' q0 = gt st q0 + sI j fun i => adds bn (goF stay bn) (toF n R m bn) z2 z2 (dZ q0) many 0 p (k + i)) ∧
      forLoop none all (tName 14) codeB ((List.range' k j).map fun i => D.int (i : Nat)) (alE n R m s M p bn many (diceD bn) S.length tN sN r10 r14 r15 r16 r17 r18) (AD S Gs Ts st E) = some (.nx (alE n R m s M p bn many (diceD bn) S.length tN sN q10 q14 q15 q16 q17 q18) (AD S Gs' Ts' st' E'))
  | 0, k, Gs, Ts, st, E, r10, r14, r15, r16, r17, r18, hG, hT, hs, h1, h2 => by
    have z : ∀ f : Nat → Int, sI 0 f = 0 := fun f => by simp [sI]
    exact ⟨Gs, Ts, st, E, r10, r14, r15, r16, r17, r18, hG, hT, hs, h1, h2, fun t0 _ q0 _ => by rw [z, Int.add_zero], fun t0 _ q0 _ => by rw [z, Int.add_zero], fun q0 _ => by rw [z, Int.add_zero], rfl⟩
  | j + 1, k, Gs, Ts, st, E, r10, r14, r15, r16, r17, r18, hG, hT, hs, h1, h2 => by
    obtain ⟨G1, T1, s1, E1, q10, q14, q15, q16, q17, q18, a1, a2, a3, a4, a5, a6, e1⟩ := code_turn (S := S) w hm b1 b2 hp m4 hG hT hs E k r10 r15 r16 r17 r18
    have t1 : tN = (ST S G1).length := by rw [h1, ST_len, ST_len, a1.len, hG.len]
    have t2 : sN = (ST (ST S G1) T1).length := by rw [h2, ST_len (ST S Gs), ST_len (ST S G1), ← t1, ← h1, a2.len, hT.len]
    obtain ⟨Gs', Ts', st', E', y10, y14, y15, y16, y17, y18, i1, i2, i3, i4, i5, i6, i7, i8, e2⟩ := codes_loop w hm b1 b2 hp m4 tN sN all j (k + 1) G1 T1 s1 E1 q10 q14 q15 q16 q17 q18 a1 a2 a3 t1 t2
    rw [← h1, ← h2] at e1
    have sh : ∀ (A B : Nat → Nat → Int) (Z : Nat → Int), (sI (j + 1) fun i => adds bn (goF stay bn) (toF n R m bn) A B Z many 0 p (k + i)) = adds bn (goF stay bn) (toF n R m bn) A B Z many 0 p k + sI j fun i => adds bn (goF stay bn) (toF n R m bn) A B Z many 0 p (k + 1 + i) := fun A B Z => by
      rw [sI_head]
      exact congrArg (fun z => adds bn (goF stay bn) (toF n R m bn) A B Z many 0 p k + z) (sI_congr fun i _ => by rw [show k + (i + 1) = k + 1 + i by omega])
    refine ⟨Gs', Ts', st', E', y10, y14, y15, y16, y17, y18, i1, i2, i3, i4, i5, fun t0 h0 q0 hq0 => ?_, fun t0 h0 q0 hq0 => ?_, fun q0 hq0 => ?_, loopS_cons rfl e1 e2⟩
    · rw [i6 t0 h0 q0 hq0, a4 t0 h0 q0 hq0, sh, Int.add_assoc]
    · rw [i7 t0 h0 q0 hq0, a5 t0 h0 q0 hq0, sh, Int.add_assoc]
    · rw [i8 q0 hq0, a6 q0 hq0, sh, Int.add_assoc]
end
end My
set_option Elab.async false
set_option linter.all false
set_option maxRecDepth 100000
set_option maxHeartbeats 1000000
set_option exponentiation.threshold 20000
namespace My
open PySem PySem.Spec PyProof.Rows L2 PD
/-! ### the walk of the weights is what is due -/
section
variable {n bn : Nat} {go : Nat → Nat → Nat → Bool} {to : Nat → Nat → Nat} {R : List (List Int)} {part : Int} {sh : Nat → Nat → Int} {p0 : Nat}
theorem fwd_congr (A B : Nat → Nat → Int) (Z : Nat → Int) : ∀ (k t : Nat) (v v' : Nat → Int), (∀ p < n, v p = v' p) → fwd n bn go to A B Z k t v = fwd n bn go to A B Z k t v'
  | 0, t, v, v', h => sI_congr fun p hp => by rw [h p hp]
  | k + 1, t, v, v', h => by
    have e := fwd_congr A B Z k (t + 1) (fun j => sI n fun p => v p * share bn go p t * cnt bn to p j) (fun j => sI n fun p => v' p * share bn go p t * cnt bn to p j) fun j _ => sI_congr fun p hp => by rw [h p hp]
    show _ + _ + fwd n bn go to A B Z k (t + 1) (fun j => sI n fun p => v p * share bn go p t * cnt bn to p j) = _ + _ + fwd n bn go to A B Z k (t + 1) (fun j => sI n fun p => v' p * share bn go p t * cnt bn to p j)
    rw [e, sI_congr fun p hp => by rw [h p hp], sI_congr (f := fun p => v p * (bn - share bn go p t) * bn * (bn * bn : Nat) ^ k * B t p) fun p hp => by rw [h p hp]]
variable (hs : ∀ p < n, ∀ t, share bn go p t = sh p t) (hc : ∀ p < n, ∀ j < n, cnt bn to p j = at2 R p j * part)
include hs hc
/-- one step of the weights -/
theorem fwd_step (A B : Nat → Nat → Int) (Z : Nat → Int) (k t : Nat) : fwd n bn go to A B Z (k + 1) t (stF n R part sh p0 t) = (sI n fun p => stF n R part sh p0 t p * sh p t * bn * (bn * bn : Nat) ^ k * A t p) + (sI n fun p => stF n R part sh p0 t p * (bn - sh p t) * bn * (bn * bn : Nat) ^ k * B t p) + fwd n bn go to A B Z k (t + 1) (stF n R part sh p0 (t + 1)) := by
  have e : fwd n bn go to A B Z k (t + 1) (fun j => sI n fun p => stF n R part sh p0 t p * share bn go p t * cnt bn to p j) = fwd n bn go to A B Z k (t + 1) (stF n R part sh p0 (t + 1)) := fwd_congr A B Z k (t + 1) _ _ fun j hj => by
    show (sI n fun p => stF n R part sh p0 t p * share bn go p t * cnt bn to p j) = sI n fun i => stF n R part sh p0 t i * sh i t * part * at2 R i j
    refine sI_congr fun p hp => ?_
    rw [hs p hp, hc p hp j hj, Int.mul_assoc _ part, Int.mul_comm part]
  show _ + _ + fwd n bn go to A B Z k (t + 1) (fun j => sI n fun p => stF n R part sh p0 t p * share bn go p t * cnt bn to p j) = _
  rw [e, sI_congr (f := fun p => stF n R part sh p0 t p * share bn go p t * bn * (bn * bn : Nat) ^ k * A t p) fun p hp => by rw [hs p hp], sI_congr (f := fun p => stF n R part sh p0 t p * (bn - share bn go p t) * bn * (bn * bn : Nat) ^ k * B t p) fun p hp => by rw [hs p hp]]
theorem fwd_z (q0 : Nat) (hq : q0 < n) : ∀ (k t : Nat), fwd n bn go to z2 z2 (dZ q0) k t (stF n R part sh p0 t) = stF n R part sh p0 (t + k) q0
  | 0, t => by
    show (sI n fun p => stF n R part sh p0 t p * dZ q0 p) = _
    rw [sI_congr (g := fun p => if p = q0 then stF n R part sh p0 t q0 else 0) fun p _ => by
      unfold dZ
      by_cases h : p = q0
      · subst h; simp
      · simp [h], sI_one n q0 hq]
    rfl
  | k + 1, t => by
    rw [fwd_step hs hc, fwd_z q0 hq k (t + 1), sI_congr (g := fun _ => 0) fun p _ => by unfold z2; rw [Int.mul_zero], sI_congr (f := fun p => stF n R part sh p0 t p * (bn - sh p t) * bn * (bn * bn : Nat) ^ k * z2 t p) (g := fun _ => 0) fun p _ => by unfold z2; rw [Int.mul_zero], sI_zero, show t + 1 + k = t + (k + 1) by omega]
    omega
end
end My
set_option Elab.async false
set_option linter.all false
set_option maxRecDepth 100000
set_option maxHeartbeats 1000000
set_option exponentiation.threshold 20000
namespace My
open PySem PySem.Spec PyProof.Rows L2 PD
section
variable {n bn : Nat} {go : Nat → Nat → Nat → Bool} {to : Nat → Nat → Nat} {R : List (List Int)} {part : Int} {sh : Nat → Nat → Int} {p0 : Nat}
theorem sI_dA (f : Nat → Int) (t0 q0 t : Nat) (hq : q0 < n) : (sI n fun p => f p * dA t0 q0 t p) = if t = t0 then f q0 else 0 := by
  by_cases h : t = t0
  · rw [if_pos h, sI_congr (g := fun p => if p = q0 then f q0 else 0) fun p _ => by
      unfold dA
      by_cases e : p = q0
      · subst e; simp [h]
      · simp [e], sI_one n q0 hq]
  · rw [if_neg h, sI_congr (g := fun _ => 0) fun p _ => by unfold dA; rw [if_neg fun u => h u.1, Int.mul_zero], sI_zero]
theorem sI_z2 (f : Nat → Int) (t : Nat) : (sI n fun p => f p * z2 t p) = 0 := by
  rw [sI_congr (g := fun _ => 0) fun p _ => by unfold z2; rw [Int.mul_zero], sI_zero]
variable (hs : ∀ p < n, ∀ t, share bn go p t = sh p t) (hc : ∀ p < n, ∀ j < n, cnt bn to p j = at2 R p j * part)
include hs hc
theorem fwd_g (t0 q0 : Nat) (hq : q0 < n) : ∀ (k t : Nat), fwd n bn go to (dA t0 q0) z2 z1 k t (stF n R part sh p0 t) = if t ≤ t0 ∧ t0 < t + k then stF n R part sh p0 t0 q0 * sh q0 t0 * bn * (bn * bn : Nat) ^ (t + k - (t0 + 1)) else 0
  | 0, t => by
    show (sI n fun p => stF n R part sh p0 t p * z1 p) = _
    rw [sI_congr (g := fun _ => 0) fun p _ => by unfold z1; rw [Int.mul_zero], sI_zero, if_neg (by omega)]
  | k + 1, t => by
    rw [fwd_step hs hc, fwd_g t0 q0 hq k (t + 1), sI_dA _ _ _ _ hq, sI_z2]
    by_cases h : t = t0
    · subst h
      rw [if_pos rfl, if_neg (show ¬ (t + 1 ≤ t ∧ t < t + 1 + k) by omega), if_pos (show t ≤ t ∧ t < t + (k + 1) by omega), show t + (k + 1) - (t + 1) = k by omega]
      omega
    · rw [if_neg h]
      by_cases y : t + 1 ≤ t0 ∧ t0 < t + 1 + k
      · rw [if_pos y, if_pos (show t ≤ t0 ∧ t0 < t + (k + 1) by omega), show t + 1 + k - (t0 + 1) = t + (k + 1) - (t0 + 1) by omega]
        omega
      · rw [if_neg y, if_neg (show ¬ (t ≤ t0 ∧ t0 < t + (k + 1)) by omega)]
        rfl
theorem fwd_t (t0 q0 : Nat) (hq : q0 < n) : ∀ (k t : Nat), fwd n bn go to z2 (dA t0 q0) z1 k t (stF n R part sh p0 t) = if t ≤ t0 ∧ t0 < t + k then stF n R part sh p0 t0 q0 * (bn - sh q0 t0) * bn * (bn * bn : Nat) ^ (t + k - (t0 + 1)) else 0
  | 0, t => by
    show (sI n fun p => stF n R part sh p0 t p * z1 p) = _
    rw [sI_congr (g := fun _ => 0) fun p _ => by unfold z1; rw [Int.mul_zero], sI_zero, if_neg (by omega)]
  | k + 1, t => by
    rw [fwd_step hs hc, fwd_t t0 q0 hq k (t + 1), sI_dA _ _ _ _ hq, sI_z2]
    by_cases h : t = t0
    · subst h
      rw [if_pos rfl, if_neg (show ¬ (t + 1 ≤ t ∧ t < t + 1 + k) by omega), if_pos (show t ≤ t ∧ t < t + (k + 1) by omega), show t + (k + 1) - (t + 1) = k by omega]
      omega
    · rw [if_neg h]
      by_cases y : t + 1 ≤ t0 ∧ t0 < t + 1 + k
      · rw [if_pos y, if_pos (show t ≤ t0 ∧ t0 < t + (k + 1) by omega), show t + 1 + k - (t0 + 1) = t + (k + 1) - (t0 + 1) by omega]
        omega
      · rw [if_neg y, if_neg (show ¬ (t ≤ t0 ∧ t0 < t + (k + 1)) by omega)]
        rfl
end
end My
set_option Elab.async false
set_option linter.all false
set_option maxRecDepth 100000
set_option maxHeartbeats 1000000
set_option exponentiation.threshold 20000
namespace My
open PySem PySem.Spec PyProof.Rows L2 PD
theorem mat_ext {k n : Nat} {Gs : List (List Int)} {f : Nat → List Int} (h : Mat k n Gs) (hf : ∀ t < k, (f t).length = n) (he : ∀ t < k, ∀ q < n, at2 Gs t q = gt (f t) q) : Gs = (List.range k).map f := by
  refine List.ext_getElem (by simp [h.len]) fun t h1 h2 => ?_
  have ht : t < k := by rw [← h.len]; exact h1
  have g : Gs.getD t [] = Gs[t] := by simp [List.getD, h1]
  have r := h.row t ht
  rw [g] at r
  simp only [List.getElem_map, List.getElem_range]
  refine gt_ext (by rw [r, hf t ht]) fun q hq => ?_
  rw [← he t ht q (by omega)]
  unfold at2
  rw [g]
section
variable {n bn : Nat} {go : Nat → Nat → Nat → Bool} {to : Nat → Nat → Nat} {R : List (List Int)} {part : Int} {sh : Nat → Nat → Int} {p0 many : Nat}
theorem tot_at (b1 : 1 ≤ bn) (ht : ∀ p < n, ∀ e < bn, to p e < n) (hp : p0 < n) (A B : Nat → Nat → Int) (Z : Nat → Int) : tot bn go to A B Z many 0 p0 = fwd n bn go to A B Z many 0 (stF n R part sh p0 0) := by
  rw [← tot_fwd b1 ht]
  rw [sI_congr (g := fun p => if p = p0 then tot bn go to A B Z many 0 p0 else 0) fun p _ => by
    show (if p = p0 then (1 : Int) else 0) * _ = _
    by_cases h : p = p0
    · subst h; simp
    · simp [h], sI_one n p0 hp]
/-- all codes counted are what is due -/
theorem counted (b1 : 1 ≤ bn) (ht : ∀ p < n, ∀ e < bn, to p e < n) (hp : p0 < n) (hs : ∀ p < n, ∀ t, share bn go p t = sh p t) (hc : ∀ p < n, ∀ j < n, cnt bn to p j = at2 R p j * part) {Gs Ts : List (List Int)} {st : List Int} (hG : Mat many n Gs) (hT : Mat many n Ts) (hst : st.length = n)
    (g : ∀ t0 < many, ∀ q0 < n, at2 Gs t0 q0 = sI ((bn * bn) ^ many) fun c => adds bn go to (dA t0 q0) z2 z1 many 0 p0 c) (t : ∀ t0 < many, ∀ q0 < n, at2 Ts t0 q0 = sI ((bn * bn) ^ many) fun c => adds bn go to z2 (dA t0 q0) z1 many 0 p0 c) (z : ∀ q0 < n, gt st q0 = sI ((bn * bn) ^ many) fun c => adds bn go to z2 z2 (dZ q0) many 0 p0 c) :
    Gs = (List.range many).map (goR n R part sh p0 bn many) ∧ Ts = (List.range many).map (stR n R part sh p0 bn many) ∧ st = stL n R part sh p0 many := by
  have bb : ((bn * bn : Nat) : Int) = (bn : Int) * bn := Int.natCast_mul ..
  refine ⟨mat_ext hG (fun t0 _ => by simp [goR]) fun t0 h0 q0 hq => ?_, mat_ext hT (fun t0 _ => by simp [stR]) fun t0 h0 q0 hq => ?_, gt_ext (by simp [stL, hst]) fun q0 hq => ?_⟩
  · rw [g t0 h0 q0 hq]
    have e := tot_at (go := go) (many := many) (R := R) (part := part) (sh := sh) b1 ht hp (dA t0 q0) z2 z1
    unfold tot at e
    rw [show (sI ((bn * bn) ^ many) fun c => adds bn go to (dA t0 q0) z2 z1 many 0 p0 c) = _ from e, fwd_g hs hc t0 q0 hq, if_pos ⟨by omega, by omega⟩, Nat.zero_add, bb]
    unfold goR
    rw [gt_range hq]
  · rw [t t0 h0 q0 hq]
    have e := tot_at (go := go) (many := many) (R := R) (part := part) (sh := sh) b1 ht hp z2 (dA t0 q0) z1
    unfold tot at e
    rw [show (sI ((bn * bn) ^ many) fun c => adds bn go to z2 (dA t0 q0) z1 many 0 p0 c) = _ from e, fwd_t hs hc t0 q0 hq, if_pos ⟨by omega, by omega⟩, Nat.zero_add, bb]
    unfold stR
    rw [gt_range hq]
  · have hq' : q0 < n := by rw [← hst]; exact hq
    rw [z q0 hq']
    have e := tot_at (go := go) (many := many) (R := R) (part := part) (sh := sh) b1 ht hp z2 z2 (dZ q0)
    unfold tot at e
    rw [show (sI ((bn * bn) ^ many) fun c => adds bn go to z2 z2 (dZ q0) many 0 p0 c) = _ from e, fwd_z hs hc q0 hq', Nat.zero_add]
    unfold stL
    rw [gt_range hq']
end
end My
set_option Elab.async false
set_option linter.all false
set_option maxRecDepth 100000
set_option maxHeartbeats 1000000
set_option exponentiation.threshold 20000
namespace My
open PySem PySem.Spec PyProof.Rows L2 PD
/-! ### rows of numbers beside rows of numbers -/
theorem pyrs_ints (g : Nat → Option PyData) : ∀ ts : List Int, pyrs g (ts.map D.int) = some (ts.map PyData.int)
  | [] => rfl
  | t :: ts => by simp only [List.map_cons, pyrs, pyr, pyrs_ints g ts]
theorem lay_ints : ∀ ts : List Int, PyData.canLayAll0 (ts.map PyData.int) = true
  | [] => rfl
  | t :: ts => by simp only [List.map_cons, PyData.canLayAll0, PyData.canLay0, lay_ints ts, Bool.and_self]
theorem depth_ints : ∀ ts : List Int, PyData.depthAll (ts.map PyData.int) = 0
  | [] => rfl
  | t :: ts => by simp only [List.map_cons, PyData.depthAll, PyData.depth, depth_ints ts, Nat.max_self]
theorem eqv_ints : ∀ ts us : List Int, PyData.eqvAll (ts.map PyData.int) (us.map PyData.int) = decide (ts = us)
  | [], [] => rfl
  | [], _ :: _ => rfl
  | _ :: _, [] => rfl
  | t :: ts, u :: us => by
    simp only [List.map_cons, PyData.eqvAll, PyData.eqv, eqv_ints ts us]
    by_cases h : t = u <;> simp [h]
def rowsP (Ns : List (List Int)) : List PyData := Ns.map fun r => .list (r.map .int)
theorem lay_rows : ∀ Ns : List (List Int), PyData.canLayAll0 (rowsP Ns) = true
  | [] => rfl
  | r :: Ns => by
    have ih := lay_rows Ns
    unfold rowsP at *
    simp only [List.map_cons, PyData.canLayAll0, PyData.canLay0, lay_ints, ih, Bool.and_self]
theorem depth_rows : ∀ Ns : List (List Int), PyData.depthAll (rowsP Ns) ≤ 1
  | [] => by decide
  | r :: Ns => by
    have ih := depth_rows Ns
    unfold rowsP at *
    simp only [List.map_cons, PyData.depthAll, PyData.depth, depth_ints]
    omega
theorem eqv_rows : ∀ Ns : List (List Int), PyData.eqvAll (rowsP Ns) (rowsP Ns) = true
  | [] => rfl
  | r :: Ns => by
    have ih := eqv_rows Ns
    unfold rowsP at *
    simp only [List.map_cons, PyData.eqvAll, PyData.eqv, eqv_ints, ih, decide_true, Bool.and_self]
theorem pyrs_rows (g : Nat → Option PyData) : ∀ Ns : List (List Int), pyrs g (Ns.map IL) = some (rowsP Ns)
  | [] => rfl
  | r :: Ns => by
    have ih := pyrs_rows g Ns
    unfold rowsP at *
    simp only [List.map_cons, pyrs, pyr, pyrs_ints, ih, Option.map_some]
theorem pyg_rows {V : Store} {a : Nat} {Ns : List (List Int)} (h0 : V[a]? = some (refs a Ns.length)) (hr : ∀ i < Ns.length, V[a + 1 + i]? = some ((Ns.getD i []).map .int)) : pyg V 3 a = some (.list (rowsP Ns)) := by
  have one : ∀ i < Ns.length, pyg V 2 (a + 1 + i) = some (.list ((Ns.getD i []).map .int)) := fun i hi => by
    simp only [pyg, hr i hi, pyrs_ints, Option.map_some]
  have all : ∀ (k j : Nat), j + k = Ns.length → pyrs (pyg V 2) ((List.range' j k).map fun i => D.ref (a + 1 + i)) = some ((List.range' j k).map fun i => PyData.list ((Ns.getD i []).map .int)) := fun k => by
    induction k with
    | zero => intro j _; simp [pyrs]
    | succ k ih =>
      intro j hj
      rw [List.range'_succ, List.map_cons, List.map_cons]
      simp only [pyrs, pyr, one j (by omega), ih (j + 1) (by omega)]
  have e := all Ns.length 0 (by omega)
  rw [← List.range_eq_range'] at e
  have e3 : pyg V 3 a = (pyrs (pyg V 2) (refs a Ns.length)).map .list := by
    show (match V[a]? with | some xs => (pyrs (pyg V 2) xs).map PyData.list | none => none) = _
    rw [h0]
  rw [e3, show refs a Ns.length = (List.range Ns.length).map fun i => D.ref (a + 1 + i) from rfl, e, Option.map_some]
  congr 2
  unfold rowsP
  refine List.ext_getElem (by simp) fun i h1 h2 => ?_
  simp only [List.length_map, List.length_range] at h1
  simp [List.getD, List.getElem?_eq_getElem h1]
theorem shaped_due (Gs Ts : List (List Int)) (st : List Int) : SeqAt.shaped (.tuple [.list (rowsP Gs), .list (rowsP Ts), .list (st.map .int)]) = true := by
  have d1 := depth_rows Gs
  have d2 := depth_rows Ts
  simp only [SeqAt.shaped, PyData.canLay0, PyData.canLayAll0, lay_rows, lay_ints, PyData.depth, PyData.depthAll, depth_ints, Bool.and_self, Bool.true_and, decide_eq_true_eq]
  omega
/-- what was counted beside what is due -/
theorem eq_due {S E : Store} {Gs Ts : List (List Int)} {st : List Int} : oEq (.tup [.ref S.length, .ref (ST S Gs).length, .ref (ST (ST S Gs) Ts).length]) (.tup [lls Gs, lls Ts, IL st]) (AD S Gs Ts st E) = some (.ok (.bl true) (AD S Gs Ts st E)) := by
  have g := pyg_rows (AD_g S Gs Ts st E) fun i hi => AD_gr hi
  have t := pyg_rows (AD_t S Gs Ts st E) fun i hi => AD_tr hi
  have z : pyg (AD S Gs Ts st E) 3 (ST (ST S Gs) Ts).length = some (.list (st.map .int)) := by
    simp only [pyg, AD_s, pyrs_ints, Option.map_some]
  have p1 : toPy (AD S Gs Ts st E) (.tup [.ref S.length, .ref (ST S Gs).length, .ref (ST (ST S Gs) Ts).length]) = some (.tuple [.list (rowsP Gs), .list (rowsP Ts), .list (st.map .int)]) := by
    unfold toPy
    simp only [pyr, pyrs, g, t, z, Option.map_some]
  have p2 : toPy (AD S Gs Ts st E) (.tup [lls Gs, lls Ts, IL st]) = some (.tuple [.list (rowsP Gs), .list (rowsP Ts), .list (st.map .int)]) := by
    have r : ∀ Ns, pyr (pyg (AD S Gs Ts st E) 3) (lls Ns) = some (.list (rowsP Ns)) := fun Ns => by
      show (pyrs _ (Ns.map IL)).map PyData.list = _
      rw [pyrs_rows]
      rfl
    unfold toPy
    simp only [pyr, pyrs, r, pyrs_ints, Option.map_some]
  have h : eqD (AD S Gs Ts st E) (.tup [.ref S.length, .ref (ST S Gs).length, .ref (ST (ST S Gs) Ts).length]) (.tup [lls Gs, lls Ts, IL st]) = some true := by
    unfold eqD
    rw [p1, p2]
    simp only [shaped_due, Bool.and_self, if_true, PyData.eqv, PyData.eqvAll, eqv_rows, eqv_ints, decide_true]
  unfold oEq
  rw [h]
  rfl
end My
set_option Elab.async false
set_option linter.all false
set_option maxRecDepth 100000
set_option maxHeartbeats 1000000
set_option exponentiation.threshold 20000
namespace My
open PySem PySem.Spec PyProof.Rows L2 PD
section
variable {n : Nat} {R : List (List Int)} {m part : Int} {s : Str} {ms : List D} {stay : Nat → Nat → Int → Int → Bool} {sh : Nat → Nat → Int} {p bn many : Nat}
theorem Mat.zero (k n : Nat) : Mat k n (List.replicate k (List.replicate n 0)) := ⟨by simp, fun t ht => by simp [List.getD, ht]⟩
theorem zero_at {k n t q : Nat} : at2 (List.replicate k (List.replicate n 0)) t q = 0 := by
  unfold at2
  by_cases h : t < k
  · simp only [List.getD, List.getElem?_replicate, h, if_true, Option.getD_some]
    exact gt_rep _ _
  · simp [List.getD, h, gt]
theorem v_all_dice (w : WK n R m) (hm : Man n s (.tup ms) stay) (hs : Sh n (bn : Int) s ms sh) (b1 : 1 ≤ bn) (b2 : bn ≤ 60) (p1 : 1 ≤ part) (p2 : part ≤ 60) (eb : (bn : Int) = part * m) (hp : p < n) (m4 : many ≤ 4) (hN : (bn * bn) ^ many ≤ 1000) (hsh : ∀ p < n, ∀ t, share bn (goF stay bn) p t = sh p t) (S : Store) :
    O__law_all_dice [wb R m, .str s, .tup ms, .int (p : Nat), .int (bn : Nat), .int (many : Nat)] S = some (.ok (.bl true) S) := by
  have n8 := w.n8
  have hc : ∀ p < n, ∀ j < n, cnt bn (toF n R m bn) p j = at2 R p j * part := fun p hp j hj => cnt_row w b1 (by omega) p1 eb hp hj
  have ht : ∀ p < n, ∀ e < bn, toF n R m bn p e < n := fun p hp e he => (leads_toP w hp (digit_die he (by omega))).lt
  obtain ⟨Gs, Ts, st, E, q10, q14, q15, q16, q17, q18, a1, a2, a3, a4, a5, a6, a7, a8, e⟩ := codes_loop (S := S) w hm b1 b2 hp m4 (ST S (List.replicate many (List.replicate n 0))).length (ST (ST S (List.replicate many (List.replicate n 0))) (List.replicate many (List.replicate n 0))).length ((List.range' 0 ((bn * bn) ^ many)).map fun i => D.int (i : Nat)) ((bn * bn) ^ many) 0 (List.replicate many (List.replicate n 0)) (List.replicate many (List.replicate n 0)) (List.replicate n 0) [] none none none none none none (Mat.zero many n) (Mat.zero many n) (by simp) rfl rfl
  simp only [zero_at, Int.zero_add, Nat.zero_add, gt_rep] at a6 a7 a8
  obtain ⟨c1, c2, c3⟩ := counted (go := goF stay bn) (to := toF n R m bn) (sh := sh) (part := part) b1 ht hp hsh hc a1 a2 a3 a6 a7 a8
  have du := v_dues (p := p) w p1 p2 (show (1 : Int) ≤ bn by omega) (show (bn : Int) ≤ 60 by omega) eb hs m4 (AD S Gs Ts st E)
  have eq := eq_due (S := S) (E := E) (Gs := Gs) (Ts := Ts) (st := st)
  have dT : dueT n R part sh p bn many = .tup [lls Gs, lls Ts, IL st] := by
    unfold dueT
    rw [← c1, ← c2, ← c3]
  rw [dT] at du
  rw [a4, a5] at e
  refine fn_rt (S1 := AD S Gs Ts st E) ?_ (AD_take S Gs Ts st E) rfl
  simp only [D__law_all_dice]
  rw [show startD ["_law_web_here", "_law_manner", "_law_marks", "_law_place", "_law_bottom", "_law_many", "_law_size", "_law_dice", "_law_k", "_law_goes", "_law_t", "_law_i", "_law_stays", "_law_stands", "_law_code", "_law_pairs", "_law_told", "_law_way", "_law_last"] [wb R m, .str s, .tup ms, .int (p : Nat), .int (bn : Nat), .int (many : Nat)] = [some (wb R m), some (.str s), some (.tup ms), some (.int (p : Nat)), some (.int (bn : Nat)), some (.int (many : Nat)), none, none, none, none, none, none, none, none, none, none, none, none, none] from rfl]
  have sz : dCall oLen (dCons (dBin oIx (dVar 0) (dC (.int 0))) (dNil)) [some (wb R m), some (.str s), some (.tup ms), some (.int (p : Nat)), some (.int (bn : Nat)), some (.int (many : Nat)), none, none, none, none, none, none, none, none, none, none, none, none, none] S = some (.ok (.int (n : Nat)) S) := x_c1 (x_bin rfl rfl (e_ix0 _ _ S)) (by rw [e_lenT, List.length_map, w.len])
  have di : dLc [8] (dRange1 (dVar 4)) (.one 8) (dYes) (dFn 2 O__law_lowest (dCons (dVar 8) (dCons (dVar 4) (dNil)))) [some (wb R m), some (.str s), some (.tup ms), some (.int (p : Nat)), some (.int (bn : Nat)), some (.int (many : Nat)), some (.int (n : Nat)), none, none, none, none, none, none, none, none, none, none, none, none] S = some (.ok (diceD bn) S) :=
    lc_range (own := [8]) (t := .one 8) bn (fun k => pr (lowP (k : Nat) bn) (lowQ (k : Nat) bn)) (fun k => [some (wb R m), some (.str s), some (.tup ms), some (.int (p : Nat)), some (.int (bn : Nat)), some (.int (many : Nat)), some (.int (n : Nat)), none, some (.int (k : Nat)), none, none, none, none, none, none, none, none, none, none]) (range1_of (n := bn) rfl (by omega)) (fun _ _ => rfl) (fun k hk V => x_f2 (f1 := dVar 8) (f2 := dVar 4) rfl rfl (v_lowest (by omega) (by omega) (by omega) (by omega) V)) (by omega) (by
      rw [closeds_all]
      refine List.all_eq_true.mpr fun x hx => ?_
      obtain ⟨i, _, rfl⟩ := List.mem_map.mp hx
      rfl)
  refine q_set sz (q_set di ?_)
  refine q_set (zeros_lc (i := 10) (j := 11) (by decide) many n (by omega) (by omega) (range1_of (n := many) rfl (by omega)) fun k V => range1_of (n := n) rfl (by omega)) ?_
  refine q_set (zeros_lc (i := 10) (j := 11) (by decide) many n (by omega) (by omega) (range1_of (n := many) rfl (by omega)) fun k V => range1_of (n := n) rfl (by omega)) ?_
  have lz : ∀ V, dLcM [11] (dRange1 (dVar 6)) (.one 11) (dYes) (dC (.int 0)) [some (wb R m), some (.str s), some (.tup ms), some (.int (p : Nat)), some (.int (bn : Nat)), some (.int (many : Nat)), some (.int (n : Nat)), some (diceD bn), none, some (.ref S.length), none, none, some (.ref (ST S (List.replicate many (List.replicate n 0))).length), none, none, none, none, none, none] V = some (.ok (.ref V.length) (V ++ [(List.replicate n 0).map .int])) := fun V => by
    have e := lcM_range (own := [11]) (t := .one 11) (elt := dC (.int 0)) (f := dRange1 (dVar 6)) (ρ := [some (wb R m), some (.str s), some (.tup ms), some (.int (p : Nat)), some (.int (bn : Nat)), some (.int (many : Nat)), some (.int (n : Nat)), some (diceD bn), none, some (.ref S.length), none, none, some (.ref (ST S (List.replicate many (List.replicate n 0))).length), none, none, none, none, none, none]) (S := V) n (fun _ => D.int 0) (fun k => ([some (wb R m), some (.str s), some (.tup ms), some (.int (p : Nat)), some (.int (bn : Nat)), some (.int (many : Nat)), some (.int (n : Nat)), some (diceD bn), none, some (.ref S.length), none, none, some (.ref (ST S (List.replicate many (List.replicate n 0))).length), none, none, none, none, none, none] : EnvD).set 11 (some (.int (k : Nat)))) (range1_of (n := n) rfl (by omega)) (fun _ _ => rfl) (fun _ _ _ => rfl) (by omega)
    have z : (List.range n).map (fun _ => D.int 0) = (List.replicate n 0).map .int := by rw [List.map_const', List.length_range, List.map_replicate]
    rw [e, z]
  refine q_set (lz _) ?_
  have rg : ∀ V, dRange1 (dBin oIx (dLst (dCons (dC (.int 1)) (dCons (dBin oPow (dVar 4) (dC (.int 2))) (dCons (dBin oPow (dVar 4) (dC (.int 4))) (dCons (dBin oPow (dVar 4) (dC (.int 6))) (dCons (dBin oPow (dVar 4) (dC (.int 8))) (dNil))))))) (dVar 5)) (alE n R m s (.tup ms) p bn many (diceD bn) S.length (ST S (List.replicate many (List.replicate n 0))).length (ST (ST S (List.replicate many (List.replicate n 0))) (List.replicate many (List.replicate n 0))).length none none none none none none) V = some (.ok ((List.range' 0 ((bn * bn) ^ many)).map fun i => D.int (i : Nat)) none V) := fun V => by
    have pw := pows (ρ := alE n R m s (.tup ms) p bn many (diceD bn) S.length (ST S (List.replicate many (List.replicate n 0))).length (ST (ST S (List.replicate many (List.replicate n 0))) (List.replicate many (List.replicate n 0))).length none none none none none none) (V := V) (i := 4) (j := 5) (b := (bn : Int)) (many := many) (by omega) (by omega) rfl rfl m4
    have cast : ((bn : Int) * bn) ^ many = (((bn * bn) ^ many : Nat) : Int) := by rw [Int.natCast_pow, Int.natCast_mul]
    rw [cast] at pw
    rw [range1_of pw (by omega), rgD_map, List.range_eq_range']
  have e' : forLoop none ((List.range' 0 ((bn * bn) ^ many)).map fun i => D.int (i : Nat)) (tName 14) codeB ((List.range' 0 ((bn * bn) ^ many)).map fun i => D.int (i : Nat)) (alE n R m s (.tup ms) p bn many (diceD bn) S.length (ST S (List.replicate many (List.replicate n 0))).length (ST (ST S (List.replicate many (List.replicate n 0))) (List.replicate many (List.replicate n 0))).length none none none none none none) (ST (ST S (List.replicate many (List.replicate n 0))) (List.replicate many (List.replicate n 0)) ++ [(List.replicate n 0).map .int]) = some (.nx (alE n R m s (.tup ms) p bn many (diceD bn) S.length (ST S Gs).length (ST (ST S Gs) Ts).length q10 q14 q15 q16 q17 q18) (AD S Gs Ts st E)) := by
    rw [a4, a5]
    have : AD S (List.replicate many (List.replicate n 0)) (List.replicate many (List.replicate n 0)) (List.replicate n 0) [] = ST (ST S (List.replicate many (List.replicate n 0))) (List.replicate many (List.replicate n 0)) ++ [(List.replicate n 0).map .int] := by
      unfold AD
      rw [List.append_nil]
    rw [this] at e
    exact e
  refine q_nx ((for_of (rg _)).trans e') ?_
  exact q_ret (x_bin (x_tup (y_cons rfl (y_cons rfl (y_cons rfl y_nil))) rfl) (x_fn (y_cons (f := dVar 0) rfl (y_cons (f := dVar 1) rfl (y_cons (f := dVar 2) rfl (y_cons (f := dVar 3) rfl (y_cons (f := dVar 4) rfl (y_cons (f := dVar 5) rfl y_nil)))))) rfl du) eq)
end
end My
set_option Elab.async false
set_option linter.all false
set_option maxRecDepth 100000
set_option maxHeartbeats 1000000
set_option exponentiation.threshold 20000
namespace My
open PySem PySem.Spec PyProof.Rows L2 PD
/-! ### the shares of the three manners -/
section
variable {n bn : Nat} {mk : Nat → Option (Nat × Int × Int)} {a : Nat → Int}
theorem shareB_b {b a : Int} (b1 : 0 ≤ b) (a0 : 0 ≤ a) (a1 : a ≤ b) (m : Option (Nat × Int × Int)) (t : Nat) : 0 ≤ shareB b a m t ∧ shareB b a m t ≤ b := by
  match m with
  | none => exact ⟨b1, Int.le_refl _⟩
  | some (k, p, q) =>
    show 0 ≤ (if t < k then b else if t = k then a else 0) ∧ (if t < k then b else if t = k then a else 0) ≤ b
    split
    · exact ⟨b1, Int.le_refl _⟩
    · split
      · exact ⟨a0, a1⟩
      · exact ⟨Int.le_refl _, b1⟩
theorem sh_go (b1 : 1 ≤ bn) (b2 : bn < 200) (h : ∀ i < n, BLow bn (a i) (mk i)) (ha : ∀ i < n, 0 ≤ a i ∧ a i ≤ bn) : Sh n (bn : Int) "go" (bl_ n mk) (fun i t => shareB bn (a i) (mk i) t) where
  len := by simp [bl_]
  v := fun i hi => ⟨bD (mk i), bl_get hi, fun t S => v_share_brink (by omega) (by omega) (h i hi) t strGo (by decide +kernel) (st := false) (by decide +kernel) S⟩
  nn := fun i hi t => shareB_b (by omega) (ha i hi).1 (ha i hi).2 _ _
theorem sh_stay (b1 : 1 ≤ bn) (b2 : bn < 200) (h : ∀ i < n, BLow bn (a i) (mk i)) (ha : ∀ i < n, 0 ≤ a i ∧ a i ≤ bn) : Sh n (bn : Int) "stay" (bl_ n mk) (fun i t => bn - shareB bn (a i) (mk i) t) where
  len := by simp [bl_]
  v := fun i hi => ⟨bD (mk i), bl_get hi, fun t S => v_share_brink (by omega) (by omega) (h i hi) t strStay (by decide +kernel) (st := true) (by decide +kernel) S⟩
  nn := fun i hi t => by
    have := shareB_b (b := bn) (by omega) (ha i hi).1 (ha i hi).2 (mk i) t
    omega
theorem sh_coin {c : Nat → Int × Int} (b1 : 1 ≤ bn) (b2 : bn < 200) (h : ∀ i < n, Low (a i) bn (c i).1 (c i).2 ∧ 0 ≤ a i ∧ a i ≤ bn) : Sh n (bn : Int) "coin" (cn n c) (fun i _ => bn - a i) where
  len := by simp [cn]
  v := fun i hi => ⟨pr (c i).1 (c i).2, cn_get hi, fun t S => v_share_coin (by omega) (by omega) (h i hi).1 (h i hi).2.1 (h i hi).2.2 t S⟩
  nn := fun i hi t => by
    have := h i hi
    omega
theorem hsh_go (b1 : 1 ≤ bn) (h : ∀ i < n, BLow bn (a i) (mk i)) : ∀ p < n, ∀ t, share bn (goF (fun p t x y => !early (mk p) t x y) bn) p t = shareB bn (a p) (mk p) t := fun p hp t => by
  rw [← share_early b1 h hp t]
  unfold share
  exact sI_congr fun d _ => by
    show (if (!!early (mk p) t (lowP d bn) (lowQ d bn)) = true then (1 : Int) else 0) = if early (mk p) t (lowP d bn) (lowQ d bn) = true then 1 else 0
    rw [Bool.not_not]
theorem hsh_stay (b1 : 1 ≤ bn) (h : ∀ i < n, BLow bn (a i) (mk i)) : ∀ p < n, ∀ t, share bn (goF (fun p t x y => early (mk p) t x y) bn) p t = bn - shareB bn (a p) (mk p) t := fun p hp t => by
  rw [← share_early b1 h hp t, ← share_swap]
  rfl
theorem hsh_coin {c : Nat → Int × Int} (b1 : 1 ≤ bn) (h : ∀ i < n, Low (a i) bn (c i).1 (c i).2 ∧ 0 ≤ a i ∧ a i ≤ bn) : ∀ p < n, ∀ t, share bn (goF (fun p t x y => decide (x * (c p).2 < (c p).1 * y)) bn) p t = bn - a p := fun p hp t => by
  rw [← share_coin b1 h hp t]
  rfl
theorem brinkOf_low {xs : List Int} {b : Int} (b1 : 1 ≤ b) (m : Int) (at_ i : Nat) : BLow b (gt xs (at_ + i) / 25 % b) (brinkOf xs at_ b m i) := ⟨fun k p q e => by
  obtain ⟨c0, c1⟩ := mod_b (gt xs (at_ + i) / 25) (show 0 < b by omega)
  unfold brinkOf at e
  split at e
  · cases e
  · cases e
    exact ⟨low_ok c0 b1, c0, c1⟩⟩
end
end My
set_option Elab.async false
set_option linter.all false
set_option maxRecDepth 100000
set_option maxHeartbeats 1000000
set_option exponentiation.threshold 20000
namespace My
open PySem PySem.Spec PyProof.Rows L2 PD
/-! ### what is refused -/
@[simp] theorem e_attrC (a dd : Addr) (cs : List Str) (f : Str) (fe : Den) (ρ : EnvD) (S : Store) : dAttrC a dd cs f fe ρ S = bnd (fe ρ S) fun d S1 => match d with
  | .cau a' d' c ns xs => if a' = a ∧ d' = dd ∧ c ∈ cs then ((ns.zip xs).lookup f).map fun d => .ok d S1 else none
  | _ => none := rfl
theorem e_try {tab : List (Str × Bool)} {i : Nat} {g : SDen} {gs : Str → Nat → Nat → SDen} {ρ ρ1 : EnvD} {S S1 : Store} {c : Str} {ns : List Str} {xs : List D} {r : SRes} (h : g ρ S = some (.exc c ns xs ρ1 S1)) (ht : tab.lookup c = some true)
    (hs : ∀ a d, clr i (gs c a d (ρ1.set i (some (.cau a d c ns xs))) S1) = some r) : sTry tab i g gs ρ S = some r := by
  unfold sTry
  rw [h]
  simp only [ht]
  exact unif_of hs
theorem q_nxX {st rest : SDen} {ρ ρ1 : EnvD} {S S1 : Store} {c : Str} {ns : List Str} {xs : List D} (h : st ρ S = some (.exc c ns xs ρ1 S1)) : sSeq st rest ρ S = some (.exc c ns xs ρ1 S1) := by
  rw [e_seq, h]
def refD (y : Str) : D := .tup [.str y, .int (-1)]
theorem refused_end {y : Str} {f : D} {ds : List D} {S : Store} (h : ∀ rest, sSeq (sIf (dBin oEq (dCall oLen (dCons (dVar 1) (dNil))) (dC (.int 3))) (sSeq (sExpr (dFnL 0 3 [("arrow_by", O_arrow_by), ("coin_word", O_coin_word)] (dCons (dBin oIx (dVar 1) (dC (.int 0))) (dCons (dBin oIx (dVar 1) (dC (.int 1))) (dCons (dBin oIx (dVar 1) (dC (.int 2))) (dNil)))))) (sNil)) (sSeq (sIf (dBin oEq (dCall oLen (dCons (dVar 1) (dNil))) (dC (.int 4))) (sSeq (sExpr (dFnL 0 4 [("go_word", O_go_word), ("stay_word", O_stay_word)] (dCons (dBin oIx (dVar 1) (dC (.int 0))) (dCons (dBin oIx (dVar 1) (dC (.int 1))) (dCons (dBin oIx (dVar 1) (dC (.int 2))) (dCons (dBin oIx (dVar 1) (dC (.int 3))) (dNil))))))) (sNil)) (sSeq (sExpr (dFnL 0 5 [("led", O_led)] (dCons (dBin oIx (dVar 1) (dC (.int 0))) (dCons (dBin oIx (dVar 1) (dC (.int 1))) (dCons (dBin oIx (dVar 1) (dC (.int 2))) (dCons (dBin oIx (dVar 1) (dC (.int 3))) (dCons (dBin oIx (dVar 1) (dC (.int 4))) (dNil)))))))) (sNil))) (sNil))) rest [some f, some (.lst ds), none] S = some (.exc "NotUsable" ["at", "word"] [.int (-1), .str y] [some f, some (.lst ds), none] S)) : O__law_refused [f, .lst ds] S = some (.ok (refD y) S) := by
  refine fn_rtS ?_ rfl
  simp only [D__law_refused]
  rw [show startD ["_law_ask", "_law_things", "e"] [f, .lst ds] = [some f, some (.lst ds), none] from rfl]
  refine q_rt (e_try (r := .rt (refD y) S) (h _) (by decide +kernel) fun a0 d0 => ?_)
  have a1 : dAttrC a0 d0 ["NotUsable"] "word" (dVar 2) [some f, some (.lst ds), some (.cau a0 d0 "NotUsable" ["at", "word"] [.int (-1), .str y])] S = some (.ok (.str y) S) := by
    rw [e_attrC]
    show (if a0 = a0 ∧ d0 = d0 ∧ ("NotUsable" : Str) ∈ (["NotUsable"] : List Str) then _ else _) = _
    rw [if_pos ⟨rfl, rfl, List.mem_cons_self⟩]
    rfl
  have a2 : dAttrC a0 d0 ["NotUsable"] "at" (dVar 2) [some f, some (.lst ds), some (.cau a0 d0 "NotUsable" ["at", "word"] [.int (-1), .str y])] S = some (.ok (.int (-1)) S) := by
    rw [e_attrC]
    show (if a0 = a0 ∧ d0 = d0 ∧ ("NotUsable" : Str) ∈ (["NotUsable"] : List Str) then _ else _) = _
    rw [if_pos ⟨rfl, rfl, List.mem_cons_self⟩]
    rfl
  have e : D__law_refused_suite a0 d0 [some f, some (.lst ds), some (.cau a0 d0 "NotUsable" ["at", "word"] [.int (-1), .str y])] S = some (.rt (refD y) S) := q_ret (x_tup (y_cons a1 (y_cons a2 y_nil)) rfl)
  show clr 2 (D__law_refused_suite a0 d0 [some f, some (.lst ds), some (.cau a0 d0 "NotUsable" ["at", "word"] [.int (-1), .str y])] S) = _
  rw [e]
  rfl
end My
set_option Elab.async false
set_option linter.all false
set_option maxRecDepth 100000
set_option maxHeartbeats 1000000
set_option exponentiation.threshold 20000
namespace My
open PySem PySem.Spec PyProof.Rows L2 PD
theorem x_fnL {i n : Nat} {tab : List (Str × Op)} {g : Dens} {ρ : EnvD} {S : Store} {x : Str} {F : Op} {r : Option Res} (hρ : ρ[i]? = some (some (.fn x))) (hf : tab.find? (fun q => q.1 == x) = some (x, F)) (h : dFn n F g ρ S = r) : dFnL i n tab g ρ S = r := by
  unfold dFnL
  rw [hρ]
  simp only [hf]
  exact h
theorem q_ifX {t : Den} {sa sb rest : SDen} {ρ ρ1 : EnvD} {S S1 : Store} {p : Bool} {c : Str} {ns : List Str} {xs : List D} (h : t ρ S = some (.ok (.bl p) S)) (h2 : (if p then sa else sb) ρ S = some (.exc c ns xs ρ1 S1)) : sSeq (sIf t sa sb) rest ρ S = some (.exc c ns xs ρ1 S1) := by
  rw [e_seq, e_if, h]
  cases p
  · simp only [Bool.false_eq_true, if_false] at h2
    simp only [Bool.false_eq_true, if_false, h2]
  · simp only [if_true] at h2
    simp only [if_true, h2]
section
variable {y : Str} {a b c d e : D} {S : Store}
theorem ln3 (f : D) (ds : List D) (k : Int) (p : Bool) (hp : (((ds.length : Nat) : Int) == k) = p) : dBin oEq (dCall oLen (dCons (dVar 1) (dNil))) (dC (.int k)) [some f, some (.lst ds), none] S = some (.ok (.bl p) S) := by
  rw [← hp]
  exact x_bin (x_c1 rfl (e_lenL ds S)) rfl (o_eqI _ _ S)
theorem ref_go (h : ∀ S, O_go_word [a, b, c, d] S = nu y S) : O__law_refused [.fn "go_word", .lst [a, b, c, d]] S = some (.ok (refD y) S) :=
  refused_end fun rest => q_ifX (p := false) (ln3 _ _ _ _ rfl) (q_ifX (p := true) (ln3 _ _ _ _ rfl) (q_exc (x_fnL (x := "go_word") (F := O_go_word) rfl rfl (x_f4 (x_bin rfl rfl (ixLst (i := 0) rfl S)) (x_bin rfl rfl (ixLst (i := 1) rfl S)) (x_bin rfl rfl (ixLst (i := 2) rfl S)) (x_bin rfl rfl (ixLst (i := 3) rfl S)) (h S)))))
theorem ref_stay (h : ∀ S, O_stay_word [a, b, c, d] S = nu y S) : O__law_refused [.fn "stay_word", .lst [a, b, c, d]] S = some (.ok (refD y) S) :=
  refused_end fun rest => q_ifX (p := false) (ln3 _ _ _ _ rfl) (q_ifX (p := true) (ln3 _ _ _ _ rfl) (q_exc (x_fnL (x := "stay_word") (F := O_stay_word) rfl rfl (x_f4 (x_bin rfl rfl (ixLst (i := 0) rfl S)) (x_bin rfl rfl (ixLst (i := 1) rfl S)) (x_bin rfl rfl (ixLst (i := 2) rfl S)) (x_bin rfl rfl (ixLst (i := 3) rfl S)) (h S)))))
theorem ref_coin (h : ∀ S, O_coin_word [a, b, c] S = nu y S) : O__law_refused [.fn "coin_word", .lst [a, b, c]] S = some (.ok (refD y) S) :=
  refused_end fun rest => q_ifX (p := true) (ln3 _ _ _ _ rfl) (q_exc (x_fnL (x := "coin_word") (F := O_coin_word) rfl rfl (x_f3 (x_bin rfl rfl (ixLst (i := 0) rfl S)) (x_bin rfl rfl (ixLst (i := 1) rfl S)) (x_bin rfl rfl (ixLst (i := 2) rfl S)) (h S))))
theorem ref_arrow (h : ∀ S, O_arrow_by [a, b, c] S = nu y S) : O__law_refused [.fn "arrow_by", .lst [a, b, c]] S = some (.ok (refD y) S) :=
  refused_end fun rest => q_ifX (p := true) (ln3 _ _ _ _ rfl) (q_exc (x_fnL (x := "arrow_by") (F := O_arrow_by) rfl rfl (x_f3 (x_bin rfl rfl (ixLst (i := 0) rfl S)) (x_bin rfl rfl (ixLst (i := 1) rfl S)) (x_bin rfl rfl (ixLst (i := 2) rfl S)) (h S))))
theorem ref_led (h : ∀ S, O_led [a, b, c, d, e] S = nu y S) : O__law_refused [.fn "led", .lst [a, b, c, d, e]] S = some (.ok (refD y) S) :=
  refused_end fun rest => q_ifX (p := false) (ln3 _ _ _ _ rfl) (q_ifX (p := false) (ln3 _ _ _ _ rfl) (q_exc (x_fnL (x := "led") (F := O_led) rfl rfl (x_fn (y_cons (x_bin rfl rfl (ixLst (i := 0) rfl S)) (y_cons (x_bin rfl rfl (ixLst (i := 1) rfl S)) (y_cons (x_bin rfl rfl (ixLst (i := 2) rfl S)) (y_cons (x_bin rfl rfl (ixLst (i := 3) rfl S)) (y_cons (x_bin rfl rfl (ixLst (i := 4) rfl S)) y_nil))))) rfl (h S)))))
end
end My
set_option Elab.async false
set_option linter.all false
set_option maxRecDepth 100000
set_option maxHeartbeats 1000000
set_option exponentiation.threshold 20000
namespace My
open PySem PySem.Spec PyProof.Rows L2 PD
/-! ### one word told by keywords, and the law's own search for the next place -/
theorem v_below {x y p q : Int} (hx : small x) (hy : small y) (hp : small p) (hq : small q) (S : Store) : O__law_below [pr x y, pr p q] S = some (.ok (.bl (decide (x * q < p * y))) S) := by
  refine fn_rtS ?_ rfl
  simp only [D__law_below]
  rw [show startD ["_law_one", "_law_other"] [pr x y, pr p q] = [some (pr x y), some (pr p q)] from rfl]
  exact q_ret (x_bin (x_bin (x_bin rfl rfl (e_ix0 _ _ S)) (x_bin rfl rfl (e_ix1 _ _ _ S)) (e_mulI hx hq S)) (x_bin (x_bin rfl rfl (e_ix0 _ _ S)) (x_bin rfl rfl (e_ix1 _ _ _ S)) (e_mulI hp hy S)) (o_ltI _ _ S))
theorem x_k210 {f1 f2 f3 : Den} {ρ : EnvD} {S : Store} {d1 d2 d3 : D} {F : Op} {r : Option Res} (h1 : f1 ρ S = some (.ok d1 S)) (h2 : f2 ρ S = some (.ok d2 S)) (h3 : f3 ρ S = some (.ok d3 S)) (hF : F [d3, d2, d1] S = r) : dFnK 3 3 [2, 1, 0] F (dCons f1 (dCons f2 (dCons f3 dNil))) ρ S = r := x_fnK (y_cons h1 (y_cons h2 (y_cons h3 y_nil))) ⟨rfl, rfl⟩ hF
theorem x_k3210 {f1 f2 f3 f4 : Den} {ρ : EnvD} {S : Store} {d1 d2 d3 d4 : D} {F : Op} {r : Option Res} (h1 : f1 ρ S = some (.ok d1 S)) (h2 : f2 ρ S = some (.ok d2 S)) (h3 : f3 ρ S = some (.ok d3 S)) (h4 : f4 ρ S = some (.ok d4 S)) (hF : F [d4, d3, d2, d1] S = r) : dFnK 4 4 [3, 2, 1, 0] F (dCons f1 (dCons f2 (dCons f3 (dCons f4 dNil)))) ρ S = r := x_fnK (y_cons h1 (y_cons h2 (y_cons h3 (y_cons h4 y_nil)))) ⟨rfl, rfl⟩ hF
theorem x_k2301 {f1 f2 f3 f4 : Den} {ρ : EnvD} {S : Store} {d1 d2 d3 d4 : D} {F : Op} {r : Option Res} (h1 : f1 ρ S = some (.ok d1 S)) (h2 : f2 ρ S = some (.ok d2 S)) (h3 : f3 ρ S = some (.ok d3 S)) (h4 : f4 ρ S = some (.ok d4 S)) (hF : F [d3, d4, d1, d2] S = r) : dFnK 4 4 [2, 3, 0, 1] F (dCons f1 (dCons f2 (dCons f3 (dCons f4 dNil)))) ρ S = r := x_fnK (y_cons h1 (y_cons h2 (y_cons h3 (y_cons h4 y_nil)))) ⟨rfl, rfl⟩ hF
section
variable {n : Nat} {R : List (List Int)} {m : Int} {S : Store}
theorem v_arrow_by (w : WK n R m) {i : Nat} (hi : i < n) {x y : Int} (d : Die x y) {j : Nat} (h : Leads n R m i x y j) (S : Store) : O_arrow_by [wb R m, .int (i : Nat), pr x y] S = some (.ok (.int (j : Nat)) S) := by
  refine fn_rtS ?_ rfl
  simp only [D_arrow_by]
  rw [show startD ["web", "place", "die"] [wb R m, .int (i : Nat), pr x y] = [some (wb R m), some (.int (i : Nat)), some (pr x y)] from rfl]
  exact q_expr (x_f3 rfl rfl rfl (v_require_place_yes w (p := .int (i : Nat)) rfl (below_ok hi) "place" S)) (q_expr (x_f1 (f1 := dVar 2) rfl (v_require_die_yes S _ d.ok d.die)) (q_ret (x_f3 (f1 := dVar 0) (f2 := dVar 1) (f3 := dVar 2) rfl rfl rfl (v_next_by w hi d h S))))
abbrev wdE (R : List (List Int)) (m : Int) (B C : D) (p t : Nat) (x y : Int) (r6 r7 r8 r9 r10 r11 : Option D) : EnvD := [some (wb R m), some B, some C, some (.int (p : Nat)), some (.int (t : Nat)), some (pr x y), r6, r7, r8, r9, r10, r11]
noncomputable abbrev wdB : SDen := (sSeq (sIf (dAnd (dBin oEq (dVar 9) (dBin oSub (dVar 11) (dC (.int 1)))) (dNot (dTru (dFn 2 O__law_below (dCons (dVar 5) (dCons (dTup (dCons (dVar 10) (dCons (dBin oIx (dVar 0) (dC (.int 1))) (dNil)))) (dNil))))))) (sSeq (sSet 9 (dVar 11)) (sSeq (sSet 10 (dBin oPlus (dVar 10) (dBin oIx (dBin oIx (dBin oIx (dVar 0) (dC (.int 0))) (dVar 3)) (dVar 11)))) (sNil))) (sNil)) (sNil))
theorem cell_at (w : WK n R m) {p j : Nat} (hp : p < n) (hj : j < n) (S : Store) : oIx (.tup ((R.getD p []).map .int)) (.int (j : Nat)) S = some (.ok (.int (at2 R p j)) S) := by
  have := ixT (xs := R.getD p []) (i := j) (by rw [w.row p hp]; exact hj) S
  exact this
theorem cum_sm (w : WK n R m) {i : Nat} (hi : i < n) {j : Nat} (hj : j ≤ n) : small (cum R i j) := by
  have := cum_small w hi hj
  have := w.n8
  unfold small
  exact Nat.lt_of_le_of_lt (show (cum R i j).natAbs ≤ 480 by omega) (Nat.lt_of_lt_of_le (by decide : 480 < 2 ^ 9) (Nat.pow_le_pow_right (by decide) (by decide)))
theorem m_sm (w : WK n R m) : small m := by
  have := w.m1
  have := w.m60
  exact sm60 (by omega) (by omega)
theorem wd_loop (w : WK n R m) {p : Nat} (hp : p < n) {x y : Int} (d : Die x y) {j : Nat} (h : Leads n R m p x y j) (B C : D) (t : Nat) (r6 r7 r8 : Option D) (all : List D) (S : Store) : ∀ (k i : Nat) (r : Option D), i + k = n → 1 ≤ i →
    ∃ q, forLoop none all (tName 11) wdB ((List.range' i k).map fun (z : Nat) => D.int (z : Nat)) (wdE R m B C p t x y r6 r7 r8 (some (.int (min (i - 1) j : Nat))) (some (.int (cum R p (min (i - 1) j + 1)))) r) S = some (.nx (wdE R m B C p t x y r6 r7 r8 (some (.int (j : Nat))) (some (.int (cum R p (j + 1)))) q) S)
  | 0, i, r, hi, h1 => by
    have := h.lt
    rw [show min (i - 1) j = j by omega]
    exact ⟨r, rfl⟩
  | k + 1, i, r, hi, h1 => by
    obtain ⟨q, ih⟩ := wd_loop w hp d h B C t r6 r7 r8 all S k (i + 1) (some (.int (i : Nat))) (by omega) (by omega)
    refine ⟨q, ?_⟩
    rw [List.range'_succ, List.map_cons]
    rw [show i + 1 - 1 = i by omega] at ih
    have sub : dBin oSub (dVar 11) (dC (.int 1)) (wdE R m B C p t x y r6 r7 r8 (some (.int (min (i - 1) j : Nat))) (some (.int (cum R p (min (i - 1) j + 1)))) (some (.int (i : Nat)))) S = some (.ok (.int ((i - 1 : Nat) : Int)) S) := by
      refine (x_bin rfl rfl rfl : _ = some (Res.ok (.int ((i : Int) - 1)) S)).trans ?_
      rw [show ((i - 1 : Nat) : Int) = (i : Int) - 1 by omega]
    have eq : dBin oEq (dVar 9) (dBin oSub (dVar 11) (dC (.int 1))) (wdE R m B C p t x y r6 r7 r8 (some (.int (min (i - 1) j : Nat))) (some (.int (cum R p (min (i - 1) j + 1)))) (some (.int (i : Nat)))) S = some (.ok (.bl (((min (i - 1) j : Nat) : Int) == ((i - 1 : Nat) : Int))) S) := x_bin rfl sub (o_eqI _ _ S)
    by_cases hj : j < i - 1
    · rw [show min (i - 1) j = j by omega] at eq ⊢
      rw [show min i j = j by omega] at ih
      rw [show ((j : Int) == ((i - 1 : Nat) : Int)) = false by simp; omega] at eq
      exact loop_cons_nx (ρ2 := wdE R m B C p t x y r6 r7 r8 (some (.int (j : Nat))) (some (.int (cum R p (j + 1)))) (some (.int (i : Nat)))) rfl (q_ifF (x_andF eq) rfl) ih
    · rw [show min (i - 1) j = i - 1 by omega] at eq ⊢
      rw [show (((i - 1 : Nat) : Int) == ((i - 1 : Nat) : Int)) = true by simp] at eq
      have bl := v_below d.sx d.sy (cum_sm w hp (show i - 1 + 1 ≤ n by omega)) (m_sm w) S
      have call : dFn 2 O__law_below (dCons (dVar 5) (dCons (dTup (dCons (dVar 10) (dCons (dBin oIx (dVar 0) (dC (.int 1))) (dNil)))) (dNil))) (wdE R m B C p t x y r6 r7 r8 (some (.int (i - 1 : Nat))) (some (.int (cum R p (i - 1 + 1)))) (some (.int (i : Nat)))) S = some (.ok (.bl (decide (x * m < cum R p (i - 1 + 1) * y))) S) := x_f2 (f1 := dVar 5) rfl (x_tup (y_cons (f := dVar 10) rfl (y_cons (x_bin rfl rfl (e_ix1 _ _ _ S)) y_nil)) rfl) bl
      by_cases hk : j = i - 1
      · rw [show min i j = i - 1 by omega] at ih
        rw [← hk, decide_eq_true h.up, hk] at call
        exact loop_cons_nx (ρ2 := wdE R m B C p t x y r6 r7 r8 (some (.int (i - 1 : Nat))) (some (.int (cum R p (i - 1 + 1)))) (some (.int (i : Nat)))) rfl (q_ifF ((x_andT eq (x_notT call))) rfl) ih
      · rw [show min i j = i by omega] at ih
        rw [decide_eq_false (h.lo (i - 1) (by omega))] at call
        have c1 : cum R p (i + 1) = cum R p (i - 1 + 1) + at2 R p i := by
          rw [show i - 1 + 1 = i by omega]
          unfold cum
          rw [sI_succ]
        rw [c1] at ih
        refine loop_cons_nx (ρ2 := wdE R m B C p t x y r6 r7 r8 (some (.int (i : Nat))) (some (.int (cum R p (i - 1 + 1) + at2 R p i))) (some (.int (i : Nat)))) rfl (q_ifT (x_andT eq (x_notF call)) (q_set (f := dVar 11) rfl (q_set (x_bin (f := dVar 10) rfl (x_bin (x_bin (x_bin rfl rfl (e_ix0 _ _ S)) rfl (ixTup (wb_row w hp) S)) rfl (cell_at w hp (by omega) S)) (e_addI _ _ S)) rfl)) rfl) ih
end
end My
set_option Elab.async false
set_option linter.all false
set_option maxRecDepth 100000
set_option maxHeartbeats 1000000
set_option exponentiation.threshold 20000
namespace My
open PySem PySem.Spec PyProof.Rows L2 PD
/-! ### all words at one die -/
theorem ne_if (e : Bool) {u v : Str} (hu : PyData.strOk u = true) (hv : PyData.strOk v = true) (S : Store) : oNe (.str (if e then u else v)) (.str (if e then u else v)) S = some (.ok (.bl false) S) := by
  cases e
  · have := o_neS hv hv S
    rwa [beq_self_eq_true] at this
  · have := o_neS hu hu S
    rwa [beq_self_eq_true] at this
theorem x_ifB {t f g : Den} {ρ : EnvD} {S : Store} {e : Bool} {u v : Str} (h : t ρ S = some (.ok (.bl e) S)) (hf : f ρ S = some (.ok (.str u) S)) (hg : g ρ S = some (.ok (.str v) S)) : dIf t f g ρ S = some (.ok (.str (if e then u else v)) S) := by
  cases e
  · exact x_ifF h hg
  · exact x_ifT h hf
section
variable {n : Nat} {R : List (List Int)} {m : Int} {S : Store} {b : Nat → Option (Nat × Int × Int)} {c : Nat → Int × Int}
theorem words_head {o : Option (Nat × Int × Int)} (hb : GoodB o) {x y : Int} (d : Die x y) (B C : D) (p t : Nat) (S : Store) {rest : SDen} {Q : Option SRes} (k : rest (wdE R m B C p t x y (some (bD o)) (some (.bl (early o t x y))) none none none none) S = Q) :
    sSeq (sSet 7 (dOr (dIsN (dVar 6)) (dBin oLt (dVar 4) (dBin oIx (dVar 6) (dC (.int 0)))))) (sSeq (sIf (dNot (dTru (dVar 7))) (sSeq (sSet 7 (dAnd (dBin oEq (dVar 4) (dBin oIx (dVar 6) (dC (.int 0)))) (dFn 2 O__law_below (dCons (dVar 5) (dCons (dBin oIx (dVar 6) (dC (.int 1))) (dNil)))))) (sNil)) (sNil)) rest) (wdE R m B C p t x y (some (bD o)) none none none none none) S = Q := by
  match o, hb with
  | none, _ =>
    have n1 : dNot (dTru (dVar 7)) (wdE R m B C p t x y (some (bD none)) (some (.bl true)) none none none none) S = some (.ok (.bl false) S) := x_notT (f := dVar 7) rfl
    exact q_set (x_orT rfl) (q_ifF n1 k)
  | some (q, u, v), hb =>
    have dd := hb q u v rfl
    have i0 : ∀ r7, dBin oIx (dVar 6) (dC (.int 0)) (wdE R m B C p t x y (some (bD (some (q, u, v)))) r7 none none none none) S = some (.ok (.int (q : Nat)) S) := fun r7 => x_bin rfl rfl (e_ix0 _ _ S)
    have lt : dBin oLt (dVar 4) (dBin oIx (dVar 6) (dC (.int 0))) (wdE R m B C p t x y (some (bD (some (q, u, v)))) none none none none none) S = some (.ok (.bl (decide (t < q))) S) := by
      refine (x_bin rfl (i0 none) rfl).trans ?_
      show some (Res.ok (.bl (decide ((t : Int) < (q : Int)))) S) = _
      simp
    by_cases h : t < q
    · have e : early (some (q, u, v)) t x y = true := by simp [early, h]
      rw [e] at k
      rw [decide_eq_true h] at lt
      have n1 : dNot (dTru (dVar 7)) (wdE R m B C p t x y (some (bD (some (q, u, v)))) (some (.bl true)) none none none none) S = some (.ok (.bl false) S) := x_notT (f := dVar 7) rfl
      exact q_set (x_orF rfl lt) (q_ifF n1 k)
    · have e : early (some (q, u, v)) t x y = (decide (t = q) && decide (x * v < u * y)) := by simp [early, h]
      rw [e] at k
      rw [decide_eq_false h] at lt
      have n1 : dNot (dTru (dVar 7)) (wdE R m B C p t x y (some (bD (some (q, u, v)))) (some (.bl false)) none none none none) S = some (.ok (.bl true) S) := x_notF (f := dVar 7) rfl
      have eq : dBin oEq (dVar 4) (dBin oIx (dVar 6) (dC (.int 0))) (wdE R m B C p t x y (some (bD (some (q, u, v)))) (some (.bl false)) none none none none) S = some (.ok (.bl (decide (t = q))) S) := by
        refine (x_bin rfl (i0 _) (o_eqI _ _ S)).trans ?_
        have : (((t : Nat) : Int) == ((q : Nat) : Int)) = decide (t = q) := by
          rw [Bool.eq_iff_iff, beq_iff_eq, decide_eq_true_eq]
          omega
        rw [this]
      refine q_set (x_orF rfl lt) (q_ifT (ρ1 := wdE R m B C p t x y (some (bD (some (q, u, v)))) (some (.bl (decide (t = q) && decide (x * v < u * y)))) none none none none) n1 (q_set ?_ rfl) k)
      exact x_and eq fun _ => x_f2 (f1 := dVar 5) rfl (x_bin rfl rfl (e_ix1 _ _ _ S)) (v_below d.sx d.sy dd.sx dd.sy S)
theorem v_words (w : WK n R m) (hb : ∀ i < n, GoodB (b i)) (hc : ∀ i < n, Coin (c i).1 (c i).2) {p : Nat} (hp : p < n) (t : Nat) {x y : Int} (d : Die x y) (S : Store) : O__law_words [wb R m, .tup (bl_ n b), .tup (cn n c), .int (p : Nat), .int (t : Nat), pr x y] S = some (.ok (.bl true) S) := by
  refine fn_rtS ?_ rfl
  simp only [D__law_words]
  have n1 := w.n1
  have n8 := w.n8
  rw [show startD ["_law_web_here", "_law_brinks_here", "_law_coins_here", "_law_place", "_law_moment", "_law_die", "_law_brink", "_law_goes", "_law_told", "_law_due", "_law_heap", "_law_j"] [wb R m, .tup (bl_ n b), .tup (cn n c), .int (p : Nat), .int (t : Nat), pr x y] = wdE R m (.tup (bl_ n b)) (.tup (cn n c)) p t x y none none none none none none from rfl]
  refine q_set (d := bD (b p)) (x_bin rfl rfl (ixTup (bl_get hp) S)) (words_head (hb p hp) d _ _ p t S ?_)
  generalize hg : (some (D.bl (early (b p) t x y)) : Option D) = r7
  have v7 : dTru (dVar 7) (wdE R m (.tup (bl_ n b)) (.tup (cn n c)) p t x y (some (bD (b p))) r7 none none none none) S = some (.ok (.bl (early (b p) t x y)) S) := by
    rw [← hg]
    exact x_tru (f := dVar 7) rfl rfl
  refine q_ifF (x_bin (x_f4 (f1 := dVar 1) (f2 := dVar 3) (f3 := dVar 4) (f4 := dVar 5) rfl rfl rfl rfl (v_go_word n1 (by omega) hb hp t d S)) (x_ifB v7 rfl rfl) (ne_if _ strGo strStay S)) ?_
  refine q_ifF (x_bin (x_k2301 (f1 := dVar 4) (f2 := dVar 5) (f3 := dVar 1) (f4 := dVar 3) rfl rfl rfl rfl (v_go_word n1 (by omega) hb hp t d S)) (x_ifB v7 rfl rfl) (ne_if _ strGo strStay S)) ?_
  refine q_ifF (x_bin (x_k3210 (f1 := dVar 5) (f2 := dVar 4) (f3 := dVar 3) (f4 := dVar 1) rfl rfl rfl rfl (v_stay_word n1 (by omega) hb hp t d S)) (x_ifB v7 rfl rfl) (ne_if _ strStay strGo S)) ?_
  have cc := hc p hp
  have vb := v_below d.sx d.sy cc.sp cc.sq S
  have vc := v_coin_word n1 (show n ≤ 1000 by omega) hc hp d S
  have q : (if x * (c p).2 < (c p).1 * y then ("stay" : Str) else ("go" : Str)) = (if decide (x * (c p).2 < (c p).1 * y) then ("stay" : Str) else ("go" : Str)) := by
    by_cases z : x * (c p).2 < (c p).1 * y <;> simp [z]
  rw [q] at vc
  refine q_ifF (x_bin (x_k210 (f1 := dVar 5) (f2 := dVar 3) (f3 := dVar 2) rfl rfl rfl vc) (x_ifB (x_tru (x_f2 (f1 := dVar 5) rfl (x_bin rfl rfl (ixTup (cn_get hp) S)) vb) rfl) rfl rfl) (ne_if _ strStay strGo S)) ?_
  obtain ⟨j, L⟩ := leads_ex w hp d
  have row := ixTup (wb_row w hp) S
  refine q_set (x_k210 (f1 := dVar 5) (f2 := dVar 3) (f3 := dVar 0) rfl rfl rfl (v_arrow_by w hp d L S)) (q_set (d := .int 0) rfl (q_set (x_bin (x_bin (x_bin rfl rfl (e_ix0 _ _ S)) rfl row) rfl (cell_at w hp (j := 0) (by omega) S)) ?_))
  obtain ⟨q, lo⟩ := wd_loop w hp d L (.tup (bl_ n b)) (.tup (cn n c)) t (some (bD (b p))) r7 (some (.int (j : Nat))) (rgD ((1 : Nat) : Int) (n - 1)) S (n - 1) 1 none (by omega) (by omega)
  rw [← rgD_from, show min (1 - 1) j = 0 by omega] at lo
  have c0 : cum R p (0 + 1) = at2 R p 0 := by
    unfold cum
    rw [sI_succ]
    simp [sI]
  rw [c0] at lo
  have ln : dCall oLen (dCons (dBin oIx (dVar 0) (dC (.int 0))) (dNil)) (wdE R m (.tup (bl_ n b)) (.tup (cn n c)) p t x y (some (bD (b p))) r7 (some (.int (j : Nat))) (some (.int 0)) (some (.int (at2 R p 0))) none) S = some (.ok (.int (n : Nat)) S) := by
    refine x_c1 (x_bin rfl rfl (e_ix0 _ _ S)) ?_
    rw [e_lenT, List.length_map, w.len]
  refine q_for (range2_of (i := 1) (j := n) rfl ln (by decide) (by omega)) lo (q_ret ?_)
  refine x_andT rfl (x_andT rfl ((x_bin (f := dVar 8) rfl rfl (o_eqI _ _ S)).trans ?_))
  rw [beq_self_eq_true]
end
end My
set_option Elab.async false
set_option linter.all false
set_option maxRecDepth 100000
set_option maxHeartbeats 1000000
set_option exponentiation.threshold 20000
namespace My
open PySem PySem.Spec PyProof.Rows L2 PD
/-! ### the law's refusals -/
theorem eq_ref {y : Str} (h : PyData.strOk y = true) (S : Store) : eqD S (refD y) (refD y) = some true := by
  simp [refD, eqD, toPy, pyr, pyrs, SeqAt.shaped, PyData.eqv, PyData.eqvAll, PyData.canLay0, PyData.canLayAll0, PyData.depth, PyData.depthAll, h]
theorem x_isNB {c : Bool} {f : Den} {ρ : EnvD} {S : Store} {d : D} (h : f ρ S = some (.ok d S)) : dIsNB c f ρ S = some (.ok (.bl (!isBl c d)) S) := by
  unfold dIsNB
  rw [h]
  rfl
section
variable {ρ : EnvD} {S : Store} {gs : Dens} {ds : List D} {f y : Str} {rest : SDen} {R : Option SRes}
theorem x_ref (hy : PyData.strOk y = true) (hg : gs ρ S = some (.ok ds S)) (hl : fits ds.length = true) (h : O__law_refused [.fn f, .lst ds] S = some (.ok (refD y) S)) :
    dBin oNe (dFn 2 O__law_refused (dCons (dC (.fn f)) (dCons (dLst gs) (dNil)))) (dTup (dCons (dC (.str y)) (dCons (dUn oNeg (dC (.int 1))) (dNil)))) ρ S = some (.ok (.bl false) S) :=
  x_bin (x_f2 (f1 := dC (.fn f)) rfl (x_lst hg hl) h) (x_tup (y_cons rfl (y_cons rfl y_nil)) rfl) (oNe_of (eq_ref hy S))
theorem q_ref (hy : PyData.strOk y = true) (hg : gs ρ S = some (.ok ds S)) (hl : fits ds.length = true) (h : O__law_refused [.fn f, .lst ds] S = some (.ok (refD y) S)) (k : rest ρ S = R) :
    sSeq (sIf (dBin oNe (dFn 2 O__law_refused (dCons (dC (.fn f)) (dCons (dLst gs) (dNil)))) (dTup (dCons (dC (.str y)) (dCons (dUn oNeg (dC (.int 1))) (dNil))))) (sSeq (sRet (dC (.bl false))) (sNil)) (sNil)) rest ρ S = R := q_ifF (x_ref hy hg hl h) k
end
theorem st_die : PyData.strOk "die" = true := by decide +kernel
theorem st_dice : PyData.strOk "dice" = true := by decide +kernel
theorem st_place : PyData.strOk "place" = true := by decide +kernel
theorem st_many : PyData.strOk "many" = true := by decide +kernel
theorem st_brinks : PyData.strOk "brinks" = true := by decide +kernel
theorem st_coins : PyData.strOk "coins" = true := by decide +kernel
theorem st_marks : PyData.strOk "marks" = true := by decide +kernel
theorem st_manner : PyData.strOk "manner" = true := by decide +kernel
abbrev half : D := pr 1 2
theorem half_die : Die 1 2 := ⟨by decide +kernel, by decide, by decide, sm60 (by decide) (by decide), sm60 (by decide) (by decide)⟩
/-- the dice that are none -/
def badDie : List D := [.non, pr 1 1, pr 2 4, pr (-1) 2, pr 0 2, .tup [.bl true, .int 2], .lst [.int 1, .int 2], pr 3 2, .int 0, .tup [pr 1 2], .tup [.int 1, .int 2, .int 1]]
theorem badDie_bad : ∀ x ∈ badDie, okQ x ∧ dieB x = false := by
  have : ∀ x ∈ badDie, (tell x && smallQ x && !dieB x) = true := by decide +kernel
  intro x hx
  have := this x hx
  simp only [Bool.and_eq_true, Bool.not_eq_true'] at this
  exact ⟨this.1, this.2⟩
theorem tell_told' {x : D} (h : okQ x) : told x = true := tell_told h.1
section
variable {n : Nat} {R : List (List Int)} {m : Int} {S : Store} {b : Nat → Option (Nat × Int × Int)} {c : Nat → Int × Int}
theorem pair_one {x : D} (hx : okQ x) (hd : dieB x = false) (S : Store) : O_are_dice [.tup [.tup [half, x]]] S = some (.ok (.bl false) S) := by
  have e := v_are_dice S (.tup [.tup [half, x]]) rfl fun xs e => by
    cases e
    refine ⟨by simp, fun z hz => ?_⟩
    cases List.mem_singleton.mp hz
    refine ⟨rfl, fun u v e => ?_⟩
    cases e
    exact ⟨half_die.ok, hx⟩
  have : diceB (.tup [.tup [half, x]]) = false := by
    show ((dieB half && dieB x) && true) = false
    rw [hd]
    simp
  rwa [this] at e
theorem pair_two {x : D} (hx : okQ x) (hd : dieB x = false) (S : Store) : O_are_dice [.tup [.tup [half, half], .tup [x, half]]] S = some (.ok (.bl false) S) := by
  have e := v_are_dice S (.tup [.tup [half, half], .tup [x, half]]) rfl fun xs e => by
    cases e
    refine ⟨by simp, fun z hz => ?_⟩
    rcases List.mem_cons.mp hz with rfl | hz
    · refine ⟨rfl, fun u v e => ?_⟩
      cases e
      exact ⟨half_die.ok, half_die.ok⟩
    · cases List.mem_singleton.mp hz
      refine ⟨rfl, fun u v e => ?_⟩
      cases e
      exact ⟨hx, half_die.ok⟩
  have : diceB (.tup [.tup [half, half], .tup [x, half]]) = false := by
    show ((dieB half && dieB half) && ((dieB x && dieB half) && true)) = false
    rw [hd]
    simp
  rwa [this] at e
abbrev rfE (R : List (List Int)) (m : Int) (B C : D) (p : Nat) (n : Nat) (r6 r7 r8 r9 : Option D) : EnvD := [some (wb R m), some B, some C, some (.int (p : Nat)), some (.int (n : Nat)), some half, r6, r7, r8, r9]
/-- one bad die -/
theorem die_turn (w : WK n R m) (hb : ∀ i < n, GoodB (b i)) (hc : ∀ i < n, Coin (c i).1 (c i).2) {p : Nat} (hp : p < n) {x : D} (hx : okQ x) (hd : dieB x = false) (r6 r8 : Option D) (S : Store) : ∃ q8,
    (sSeq (sIf (dOr (dIsNB false (dFn 1 O_is_die (dCons (dVar 7) (dNil)))) (dBin oNe (dFn 2 O__law_refused (dCons (dC (.fn "go_word")) (dCons (dLst (dCons (dVar 1) (dCons (dVar 3) (dCons (dC (.int 0)) (dCons (dVar 7) (dNil)))))) (dNil)))) (dTup (dCons (dC (.str "die")) (dCons (dUn oNeg (dC (.int 1))) (dNil)))))) (sSeq (sRet (dC (.bl false))) (sNil)) (sNil)) (sSeq (sIf (dBin oNe (dFn 2 O__law_refused (dCons (dC (.fn "stay_word")) (dCons (dLst (dCons (dVar 1) (dCons (dVar 3) (dCons (dC (.int 0)) (dCons (dVar 7) (dNil)))))) (dNil)))) (dTup (dCons (dC (.str "die")) (dCons (dUn oNeg (dC (.int 1))) (dNil))))) (sSeq (sRet (dC (.bl false))) (sNil)) (sNil)) (sSeq (sIf (dBin oNe (dFn 2 O__law_refused (dCons (dC (.fn "coin_word")) (dCons (dLst (dCons (dVar 2) (dCons (dVar 3) (dCons (dVar 7) (dNil))))) (dNil)))) (dTup (dCons (dC (.str "die")) (dCons (dUn oNeg (dC (.int 1))) (dNil))))) (sSeq (sRet (dC (.bl false))) (sNil)) (sNil)) (sSeq (sIf (dBin oNe (dFn 2 O__law_refused (dCons (dC (.fn "arrow_by")) (dCons (dLst (dCons (dVar 0) (dCons (dVar 3) (dCons (dVar 7) (dNil))))) (dNil)))) (dTup (dCons (dC (.str "die")) (dCons (dUn oNeg (dC (.int 1))) (dNil))))) (sSeq (sRet (dC (.bl false))) (sNil)) (sNil)) (sSeq (sFor (dItems (dLst (dCons (dTup (dCons (dTup (dCons (dVar 5) (dCons (dVar 7) (dNil)))) (dNil))) (dCons (dTup (dCons (dTup (dCons (dVar 5) (dCons (dVar 5) (dNil)))) (dCons (dTup (dCons (dVar 7) (dCons (dVar 5) (dNil)))) (dNil)))) (dNil))))) (tName 8) (sSeq (sIf (dBin oNe (dFn 2 O__law_refused (dCons (dC (.fn "led")) (dCons (dLst (dCons (dVar 0) (dCons (dC (.str "go")) (dCons (dVar 1) (dCons (dVar 3) (dCons (dVar 8) (dNil))))))) (dNil)))) (dTup (dCons (dC (.str "dice")) (dCons (dUn oNeg (dC (.int 1))) (dNil))))) (sSeq (sRet (dC (.bl false))) (sNil)) (sNil)) (sNil))) (sNil))))))
      (rfE R m (.tup (bl_ n b)) (.tup (cn n c)) p n r6 (some x) r8 none) S = some (.nx (rfE R m (.tup (bl_ n b)) (.tup (cn n c)) p n r6 (some x) q8 none) S) := by
  have n1 := w.n1
  have n8 := w.n8
  have bw := bl_BW n1 (show n ≤ 1000 by omega) hb
  have cw := cn_CW n1 (show n ≤ 1000 by omega) hc
  have g1 := go_no (m := .int 0) (d := x) fun S => rbw_die bw (p := .int (p : Nat)) rfl (below_ok hp) (m := .int 0) rfl rfl hx hd S
  have g2 := stay_no (m := .int 0) (d := x) fun S => rbw_die bw (p := .int (p : Nat)) rfl (below_ok hp) (m := .int 0) rfl rfl hx hd S
  have g3 := fun S => coin_die cw (p := .int (p : Nat)) rfl (below_ok hp) hx hd (S := S)
  have g4 := fun S => arrow_die w (p := .int (p : Nat)) rfl (below_ok hp) hx hd (S := S)
  have mg := man_go n1 (show n ≤ 1000 by omega) hb
  have l1 := led_dice w mg (c := .int (p : Nat)) rfl (below_ok hp) (pair_one hx hd)
  have l2 := led_dice w mg (c := .int (p : Nat)) rfl (below_ok hp) (pair_two hx hd)
  have is := v_is_die S x hx
  rw [hd] at is
  refine ⟨some (.tup [.tup [half, half], .tup [x, half]]), ?_⟩
  refine q_ifF (x_orF (x_isNB (x_f1 (f1 := dVar 7) rfl is)) (x_ref st_die (ds := [.tup (bl_ n b), .int (p : Nat), .int 0, x]) rfl rfl (ref_go g1))) ?_
  refine q_ref st_die (ds := [.tup (bl_ n b), .int (p : Nat), .int 0, x]) rfl rfl (ref_stay g2) ?_
  refine q_ref st_die (ds := [.tup (cn n c), .int (p : Nat), x]) rfl rfl (ref_coin g3) ?_
  refine q_ref st_die (ds := [wb R m, .int (p : Nat), x]) rfl rfl (ref_arrow g4) ?_
  refine q_for (x_items (d := .lst [.tup [.tup [half, x]], .tup [.tup [half, half], .tup [x, half]]]) rfl rfl) (loop_cons_nx (ρ2 := rfE R m (.tup (bl_ n b)) (.tup (cn n c)) p n r6 (some x) (some (.tup [.tup [half, x]])) none) rfl ?_ (loop_cons_nx (ρ2 := rfE R m (.tup (bl_ n b)) (.tup (cn n c)) p n r6 (some x) (some (.tup [.tup [half, half], .tup [x, half]])) none) rfl ?_ rfl)) rfl
  · exact q_ref st_dice (ds := [wb R m, .str "go", .tup (bl_ n b), .int (p : Nat), .tup [.tup [half, x]]]) rfl rfl (ref_led l1) rfl
  · exact q_ref st_dice (ds := [wb R m, .str "go", .tup (bl_ n b), .int (p : Nat), .tup [.tup [half, half], .tup [x, half]]]) rfl rfl (ref_led l2) rfl
end
end My
set_option Elab.async false
set_option linter.all false
set_option maxRecDepth 100000
set_option maxHeartbeats 1000000
set_option exponentiation.threshold 20000
namespace My
open PySem PySem.Spec PyProof.Rows L2 PD
section
variable {n : Nat} {R : List (List Int)} {m : Int} {S : Store} {b : Nat → Option (Nat × Int × Int)} {c : Nat → Int × Int}
/-- one bad place -/
theorem place_turn (w : WK n R m) (hb : ∀ i < n, GoodB (b i)) (hc : ∀ i < n, Coin (c i).1 (c i).2) {p : Nat} {x : D} (hx : told x = true) (hd : (numb x && decide (ival x < n)) = false) (r6 r7 r8 : Option D) (S : Store) :
    (sSeq (sIf (dBin oNe (dFn 2 O__law_refused (dCons (dC (.fn "go_word")) (dCons (dLst (dCons (dVar 1) (dCons (dVar 9) (dCons (dUn oNeg (dC (.int 1))) (dCons (dC .non) (dNil)))))) (dNil)))) (dTup (dCons (dC (.str "place")) (dCons (dUn oNeg (dC (.int 1))) (dNil))))) (sSeq (sRet (dC (.bl false))) (sNil)) (sNil)) (sSeq (sIf (dBin oNe (dFn 2 O__law_refused (dCons (dC (.fn "stay_word")) (dCons (dLst (dCons (dVar 1) (dCons (dVar 9) (dCons (dUn oNeg (dC (.int 1))) (dCons (dC .non) (dNil)))))) (dNil)))) (dTup (dCons (dC (.str "place")) (dCons (dUn oNeg (dC (.int 1))) (dNil))))) (sSeq (sRet (dC (.bl false))) (sNil)) (sNil)) (sSeq (sIf (dBin oNe (dFn 2 O__law_refused (dCons (dC (.fn "coin_word")) (dCons (dLst (dCons (dVar 2) (dCons (dVar 9) (dCons (dC .non) (dNil))))) (dNil)))) (dTup (dCons (dC (.str "place")) (dCons (dUn oNeg (dC (.int 1))) (dNil))))) (sSeq (sRet (dC (.bl false))) (sNil)) (sNil)) (sSeq (sIf (dBin oNe (dFn 2 O__law_refused (dCons (dC (.fn "arrow_by")) (dCons (dLst (dCons (dVar 0) (dCons (dVar 9) (dCons (dC .non) (dNil))))) (dNil)))) (dTup (dCons (dC (.str "place")) (dCons (dUn oNeg (dC (.int 1))) (dNil))))) (sSeq (sRet (dC (.bl false))) (sNil)) (sNil)) (sSeq (sIf (dBin oNe (dFn 2 O__law_refused (dCons (dC (.fn "led")) (dCons (dLst (dCons (dVar 0) (dCons (dC (.str "coin")) (dCons (dVar 2) (dCons (dVar 9) (dCons (dC .non) (dNil))))))) (dNil)))) (dTup (dCons (dC (.str "place")) (dCons (dUn oNeg (dC (.int 1))) (dNil))))) (sSeq (sRet (dC (.bl false))) (sNil)) (sNil)) (sNil))))))
      (rfE R m (.tup (bl_ n b)) (.tup (cn n c)) p n r6 r7 r8 (some x)) S = some (.nx (rfE R m (.tup (bl_ n b)) (.tup (cn n c)) p n r6 r7 r8 (some x)) S) := by
  have n1 := w.n1
  have n8 := w.n8
  have bw := bl_BW n1 (show n ≤ 1000 by omega) hb
  have cw := cn_CW n1 (show n ≤ 1000 by omega) hc
  have g1 := go_no (m := .int (-1)) (d := .non) fun S => rbw_place bw (p := x) hx hd S
  have g2 := stay_no (m := .int (-1)) (d := .non) fun S => rbw_place bw (p := x) hx hd S
  have g3 := fun S => coin_place cw (p := x) (d := .non) hx hd (S := S)
  have g4 := fun S => arrow_place w (p := x) (d := .non) hx hd (S := S)
  have mc := man_coin n1 (show n ≤ 1000 by omega) hc
  have l1 := led_place w mc (c := x) (d := .non) hx hd
  refine q_ref st_place (ds := [.tup (bl_ n b), x, .int (-1), .non]) rfl rfl (ref_go g1) ?_
  refine q_ref st_place (ds := [.tup (bl_ n b), x, .int (-1), .non]) rfl rfl (ref_stay g2) ?_
  refine q_ref st_place (ds := [.tup (cn n c), x, .non]) rfl rfl (ref_coin g3) ?_
  refine q_ref st_place (ds := [wb R m, x, .non]) rfl rfl (ref_arrow g4) ?_
  exact q_ref st_place (ds := [wb R m, .str "coin", .tup (cn n c), x, .non]) rfl rfl (ref_led l1) rfl
theorem v_refusals (w : WK n R m) (hb : ∀ i < n, GoodB (b i)) (hc : ∀ i < n, Coin (c i).1 (c i).2) {p : Nat} (hp : p < n) (S : Store) : O__law_refusals [wb R m, .tup (bl_ n b), .tup (cn n c), .int (p : Nat)] S = some (.ok (.bl true) S) := by
  refine fn_rtS ?_ rfl
  simp only [D__law_refusals]
  rw [show startD ["_law_web_here", "_law_brinks_here", "_law_coins_here", "_law_place", "_law_size", "_law_half", "_law_bad_die", "_law_die", "_law_dice", "_law_one"] [wb R m, .tup (bl_ n b), .tup (cn n c), .int (p : Nat)] = [some (wb R m), some (.tup (bl_ n b)), some (.tup (cn n c)), some (.int (p : Nat)), none, none, none, none, none, none] from rfl]
  refine q_set (d := .int (n : Nat)) (x_c1 (x_bin rfl rfl (e_ix0 _ _ S)) (by rw [e_lenT, List.length_map, w.len])) (q_set (d := half) rfl (q_set (d := .lst badDie) rfl ?_))
  refine q_forI (P := fun ρ => ∃ r7 r8, ρ = rfE R m (.tup (bl_ n b)) (.tup (cn n c)) p n (some (.lst badDie)) r7 r8 none) (items := badDie) (x_items (d := .lst badDie) rfl rfl) ⟨none, none, rfl⟩ (fun x hx ρ hρ => ?_) (fun ρ hρ => ?_)
  · obtain ⟨r7, r8, rfl⟩ := hρ
    obtain ⟨h1, h2⟩ := badDie_bad x hx
    obtain ⟨q8, e⟩ := die_turn w hb hc hp h1 h2 (some (.lst badDie)) r8 S
    exact ⟨_, _, rfl, e, ⟨some x, q8, rfl⟩⟩
  · obtain ⟨r7, r8, rfl⟩ := hρ
    refine q_forI (P := fun ρ => ∃ r9, ρ = rfE R m (.tup (bl_ n b)) (.tup (cn n c)) p n (some (.lst badDie)) r7 r8 r9) (items := [.non, .int (-1), .int (n : Nat), .bl true, .tup [.int 0]]) (x_items (d := .lst [.non, .int (-1), .int (n : Nat), .bl true, .tup [.int 0]]) rfl rfl) ⟨none, rfl⟩ (fun x hx ρ hρ => ?_) (fun ρ hρ => ?_)
    · obtain ⟨r9, rfl⟩ := hρ
      have h : told x = true ∧ (numb x && decide (ival x < n)) = false := by
        simp only [List.mem_cons, List.not_mem_nil, or_false] at hx
        rcases hx with rfl | rfl | rfl | rfl | rfl
        · exact ⟨rfl, rfl⟩
        · exact ⟨rfl, rfl⟩
        · exact ⟨rfl, by simp [ival]⟩
        · exact ⟨rfl, rfl⟩
        · exact ⟨rfl, rfl⟩
      exact ⟨_, _, rfl, place_turn w hb hc h.1 h.2 _ _ _ S, ⟨some x, rfl⟩⟩
    · obtain ⟨r9, rfl⟩ := hρ
      exact q_ret rfl
end
end My
set_option Elab.async false
set_option linter.all false
set_option maxRecDepth 100000
set_option maxHeartbeats 1000000
set_option exponentiation.threshold 20000
namespace My
open PySem PySem.Spec PyProof.Rows L2 PD
/-! ### marks that are none -/
theorem cut_from1 (x : D) (xs : List D) : PD.cutD (x :: xs) (some 1) none = xs := by
  have h1 : HT.sIx (x :: xs).length 0 (some ((1 : Nat) : Int)) = min 1 (x :: xs).length := HT.sIx_nat ..
  unfold PD.cutD
  rw [HT.sIx_none, show (some (1 : Int)) = some ((1 : Nat) : Int) from rfl, h1, show min 1 (x :: xs).length = 1 by simp]
  simp
abbrev mkE (R : List (List Int)) (m : Int) (B C : D) (p : Nat) (r5 r6 : Option D) : EnvD := [some (wb R m), some B, some C, some (.int (p : Nat)), some half, r5, r6]
/-- what the law makes of marks that are none -/
def madeOf (x : D) (ys : List D) : D := match x with
  | .tup xs => .tup (xs ++ ys)
  | d => d
section
variable {n : Nat} {R : List (List Int)} {m : Int} {S : Store} {B C : D} {p : Nat} {r6 : Option D}
theorem made_val {x : D} {k : Nat} {y : D} {ys : List D} (ht : told x = true) (hx : ∀ xs, x = .tup xs → xs.length ≤ 1000) (hy : ys.length ≤ 1000) {ρ : EnvD} (h5 : ρ[5]? = some (some x)) (hk : ρ[k]? = some (some (.tup (y :: ys)))) (S : Store) :
    dIf (dTru (dIsi "tuple" (dVar 5))) (dBin oPlus (dVar 5) (dCut (dVar k) (some (dC (.int 1))) none)) (dVar 5) ρ S = some (.ok (madeOf x ys) S) := by
  have v5 : dVar 5 ρ S = some (.ok x S) := by rw [e_var, h5]
  have vk : dVar k ρ S = some (.ok (.tup (y :: ys)) S) := by rw [e_var, hk]
  have ct : dCut (dVar k) (some (dC (.int 1))) none ρ S = some (.ok (.tup ys) S) := by
    refine (x_cut (i := some 1) (j := none) vk rfl trivial).trans ?_
    simp only [oCut, cut_from1]
  cases x with
  | tup xs =>
    have := hx xs rfl
    have i : dTru (dIsi "tuple" (dVar 5)) ρ S = some (.ok (.bl true) S) := x_tru (f := dIsi "tuple" (dVar 5)) (by rw [e_isi, v5]; rfl) rfl
    refine x_ifT i (x_bin v5 ct ?_)
    simp only [oPlus]
    rw [if_pos (by omega)]
    rfl
  | rng _ _ => simp [told, tyName] at ht
  | err _ _ _ => simp [told, tyName] at ht
  | cau _ _ _ _ _ => simp [told, tyName] at ht
  | fn _ => simp [told, tyName] at ht
  | _ =>
    have i : dTru (dIsi "tuple" (dVar 5)) ρ S = some (.ok (.bl false) S) := x_tru (f := dIsi "tuple" (dVar 5)) (by rw [e_isi, v5]; rfl) rfl
    exact x_ifF i v5
/-- marks that are no brinks: what is asked of them -/
structure BadB (n : Nat) (ys : List D) (x : D) : Prop where
  t : told x = true
  l : ∀ xs, x = .tup xs → xs.length ≤ 1000
  br : (∀ S, O_are_brinks [x] S = some (.ok (.bl false) S)) ∨ x = .tup []
  md : ∀ S, O_is_brinks [.int (n : Nat), madeOf x ys] S = some (.ok (.bl false) S)
structure BadC (n : Nat) (ys : List D) (x : D) : Prop where
  t : told x = true
  l : ∀ xs, x = .tup xs → xs.length ≤ 1000
  br : (∀ S, O_are_coins [x] S = some (.ok (.bl false) S)) ∨ x = .tup []
  md : ∀ S, O_is_coins [.int (n : Nat), madeOf x ys] S = some (.ok (.bl false) S)
theorem badB_flat {ys : List D} {x : D} (t : told x = true) (h : ∀ xs, x ≠ .tup xs) : BadB n ys x where
  t := t
  l := fun xs e => absurd e (h xs)
  br := .inl fun S => by
    have := v_are_brinks S x t fun xs e => absurd e (h xs)
    rwa [show brinksB x = false by cases x <;> first | rfl | exact absurd rfl (h _)] at this
  md := fun S => by
    have := v_is_brinks S n x t fun xs e => absurd e (h xs)
    rw [show brinksN n x = false by cases x <;> first | rfl | exact absurd rfl (h _)] at this
    rwa [show madeOf x ys = x by cases x <;> first | rfl | exact absurd rfl (h _)]
theorem badC_flat {ys : List D} {x : D} (t : told x = true) (h : ∀ xs, x ≠ .tup xs) : BadC n ys x where
  t := t
  l := fun xs e => absurd e (h xs)
  br := .inl fun S => by
    have := v_are_coins S x t fun xs e => absurd e (h xs)
    rwa [show coinsB x = false by cases x <;> first | rfl | exact absurd rfl (h _)] at this
  md := fun S => by
    have := v_is_coins S n x t fun xs e => absurd e (h xs)
    rw [show coinsN n x = false by cases x <;> first | rfl | exact absurd rfl (h _)] at this
    rwa [show madeOf x ys = x by cases x <;> first | rfl | exact absurd rfl (h _)]
theorem badB_none {ys : List D} (hy : ys.length + 1 = n) (hn : n ≤ 900) (ok : ∀ y ∈ ys, okK y) : BadB n ys (.tup []) where
  t := rfl
  l := fun xs e => by cases e; decide
  br := .inr rfl
  md := fun S => by
    have := v_is_brinks S n (.tup ys) rfl fun xs e => by cases e; exact ⟨by omega, ok⟩
    rwa [show brinksN n (.tup ys) = false by
      show (ys.all bonB && decide (ys.length = n)) = false
      rw [decide_eq_false (by omega), Bool.and_false]] at this
theorem badC_none {ys : List D} (hy : ys.length + 1 = n) (hn : n ≤ 900) (ok : ∀ y ∈ ys, okQ y) : BadC n ys (.tup []) where
  t := rfl
  l := fun xs e => by cases e; decide
  br := .inr rfl
  md := fun S => by
    have := v_is_coins S n (.tup ys) rfl fun xs e => by cases e; exact ⟨by omega, ok⟩
    rwa [show coinsN n (.tup ys) = false by
      show (ys.all coinB && decide (ys.length = n)) = false
      rw [decide_eq_false (by omega), Bool.and_false]] at this
theorem badB_one {ys : List D} {x : D} (hy : ys.length + 1 = n) (hn : n ≤ 900) (ok : ∀ y ∈ ys, okK y) (hx : okK x) (hb : bonB x = false) : BadB n ys (.tup [x]) where
  t := rfl
  l := fun xs e => by cases e; simp
  br := .inl fun S => by
    have := v_are_brinks S (.tup [x]) rfl fun xs e => by
      cases e
      exact ⟨by simp, fun z hz => by cases List.mem_singleton.mp hz; exact hx⟩
    rwa [show brinksB (.tup [x]) = false by
      show (bonB x && true) = false
      rw [hb, Bool.false_and]] at this
  md := fun S => by
    have := v_is_brinks S n (.tup (x :: ys)) rfl fun xs e => by
      cases e
      refine ⟨by simp only [List.length_cons]; omega, fun z hz => ?_⟩
      rcases List.mem_cons.mp hz with rfl | hz
      · exact hx
      · exact ok z hz
    rwa [show brinksN n (.tup (x :: ys)) = false by
      show ((bonB x && ys.all bonB) && _) = false
      rw [hb, Bool.false_and, Bool.false_and]] at this
theorem badC_one {ys : List D} {x : D} (hy : ys.length + 1 = n) (hn : n ≤ 900) (ok : ∀ y ∈ ys, okQ y) (hx : okQ x) (hb : coinB x = false) : BadC n ys (.tup [x]) where
  t := rfl
  l := fun xs e => by cases e; simp
  br := .inl fun S => by
    have := v_are_coins S (.tup [x]) rfl fun xs e => by
      cases e
      exact ⟨by simp, fun z hz => by cases List.mem_singleton.mp hz; exact hx⟩
    rwa [show coinsB (.tup [x]) = false by
      show (coinB x && true) = false
      rw [hb, Bool.false_and]] at this
  md := fun S => by
    have := v_is_coins S n (.tup (x :: ys)) rfl fun xs e => by
      cases e
      refine ⟨by simp only [List.length_cons]; omega, fun z hz => ?_⟩
      rcases List.mem_cons.mp hz with rfl | hz
      · exact hx
      · exact ok z hz
    rwa [show coinsN n (.tup (x :: ys)) = false by
      show ((coinB x && ys.all coinB) && _) = false
      rw [hb, Bool.false_and, Bool.false_and]] at this
/-- brinks that are bad -/
def badBr : List D := [.tup [.int 0, pr 1 1], .tup [.int (-1), half], .tup [.int 0, half, half], half, .tup [.bl true, half]]
def smallK : D → Bool
  | .tup [_, y] => smallQ y
  | _ => true
theorem okK_of {x : D} (h : (tellK x && smallK x) = true) : okK x := by
  rw [Bool.and_eq_true] at h
  exact ⟨h.1, fun u v e => by subst e; exact h.2⟩
theorem badBr_bad : ∀ x ∈ badBr, okK x ∧ bonB x = false := by
  have : ∀ x ∈ badBr, ((tellK x && smallK x) && !bonB x) = true := by decide +kernel
  intro x hx
  have := this x hx
  rw [Bool.and_eq_true, Bool.not_eq_true'] at this
  exact ⟨okK_of this.1, this.2⟩
def badCo : List D := [pr 3 2, pr (-1) 2, pr 2 4, .non, .tup [.int 0, half], .int 1]
theorem badCo_bad : ∀ x ∈ badCo, okQ x ∧ coinB x = false := by
  have : ∀ x ∈ badCo, ((tell x && smallQ x) && !coinB x) = true := by decide +kernel
  intro x hx
  have := this x hx
  simp only [Bool.and_eq_true, Bool.not_eq_true'] at this
  exact ⟨this.1, this.2⟩
end
end My
set_option Elab.async false
set_option linter.all false
set_option maxRecDepth 100000
set_option maxHeartbeats 1000000
set_option exponentiation.threshold 20000
namespace My
open PySem PySem.Spec PyProof.Rows L2 PD
section
variable {n : Nat} {R : List (List Int)} {m : Int} {S : Store} {b : Nat → Option (Nat × Int × Int)} {c : Nat → Int × Int} {B C : D} {p : Nat} {r6 : Option D}
theorem many_turn (hB : BW B n) (hp : p < n) {x : D} (hx : told x = true) (hd : numb x = false) (S : Store) :
    (sSeq (sIf (dBin oNe (dFn 2 O__law_refused (dCons (dC (.fn "go_word")) (dCons (dLst (dCons (dVar 1) (dCons (dVar 3) (dCons (dVar 5) (dCons (dC .non) (dNil)))))) (dNil)))) (dTup (dCons (dC (.str "many")) (dCons (dUn oNeg (dC (.int 1))) (dNil))))) (sSeq (sRet (dC (.bl false))) (sNil)) (sNil)) (sSeq (sIf (dBin oNe (dFn 2 O__law_refused (dCons (dC (.fn "stay_word")) (dCons (dLst (dCons (dVar 1) (dCons (dVar 3) (dCons (dVar 5) (dCons (dC .non) (dNil)))))) (dNil)))) (dTup (dCons (dC (.str "many")) (dCons (dUn oNeg (dC (.int 1))) (dNil))))) (sSeq (sRet (dC (.bl false))) (sNil)) (sNil)) (sNil)))
      (mkE R m B C p (some x) r6) S = some (.nx (mkE R m B C p (some x) r6) S) := by
  have g1 := go_no (m := x) (d := .non) fun S => rbw_many hB (p := .int (p : Nat)) rfl (below_ok hp) hx hd S
  have g2 := stay_no (m := x) (d := .non) fun S => rbw_many hB (p := .int (p : Nat)) rfl (below_ok hp) hx hd S
  refine q_ref st_many (ds := [B, .int (p : Nat), x, .non]) rfl rfl (ref_go g1) ?_
  exact q_ref st_many (ds := [B, .int (p : Nat), x, .non]) rfl rfl (ref_stay g2) rfl
theorem marks_brinks (w : WK n R m) {s : Str} (hs : PyData.strOk s = true) (hne : (s == "coin") = false) (hi : ∀ S, oIn (.str s) (.tup [.str "go", .str "stay", .str "coin"]) S = some (.ok (.bl true) S)) {M c d : D} (h : ∀ S, O_is_brinks [.int (n : Nat), M] S = some (.ok (.bl false) S)) (S : Store) : O_led [wb R m, .str s, M, c, d] S = nu "marks" S :=
  led_marks w hi (fun S => by
    have e := o_eqS hs strCoin S
    rw [hne] at e
    exact x_ifF (x_bin rfl rfl e) (x_f2 (f1 := dVar 5) (f2 := dVar 2) rfl rfl (h S))) S
theorem marks_coins (w : WK n R m) {M c d : D} (h : ∀ S, O_is_coins [.int (n : Nat), M] S = some (.ok (.bl false) S)) (S : Store) : O_led [wb R m, .str "coin", M, c, d] S = nu "marks" S :=
  led_marks w (inn_of _ (by decide +kernel)) (fun S => x_ifT (x_bin rfl rfl (o_eqS strCoin strCoin S)) (x_f2 (f1 := dVar 5) (f2 := dVar 2) rfl rfl (h S))) S
theorem brink_turn (w : WK n R m) {y : D} {ys : List D} (hy : ys.length ≤ 1000) {x : D} (hx : BadB n ys x) (S : Store) : ∃ q6,
    (sSeq (sIf (dBin oNe (dFn 2 O__law_refused (dCons (dC (.fn "go_word")) (dCons (dLst (dCons (dVar 5) (dCons (dC .non) (dCons (dUn oNeg (dC (.int 1))) (dCons (dC .non) (dNil)))))) (dNil)))) (dTup (dCons (dC (.str "brinks")) (dCons (dUn oNeg (dC (.int 1))) (dNil))))) (sSeq (sRet (dC (.bl false))) (sNil)) (sNil)) (sSeq (sIf (dBin oNe (dFn 2 O__law_refused (dCons (dC (.fn "stay_word")) (dCons (dLst (dCons (dVar 5) (dCons (dC .non) (dCons (dUn oNeg (dC (.int 1))) (dCons (dC .non) (dNil)))))) (dNil)))) (dTup (dCons (dC (.str "brinks")) (dCons (dUn oNeg (dC (.int 1))) (dNil))))) (sSeq (sRet (dC (.bl false))) (sNil)) (sNil)) (sSeq (sSet 6 (dIf (dTru (dIsi "tuple" (dVar 5))) (dBin oPlus (dVar 5) (dCut (dVar 1) (some (dC (.int 1))) none)) (dVar 5))) (sSeq (sIf (dBin oNe (dFn 2 O__law_refused (dCons (dC (.fn "led")) (dCons (dLst (dCons (dVar 0) (dCons (dC (.str "stay")) (dCons (dVar 6) (dCons (dC .non) (dCons (dC .non) (dNil))))))) (dNil)))) (dTup (dCons (dC (.str "marks")) (dCons (dUn oNeg (dC (.int 1))) (dNil))))) (sSeq (sRet (dC (.bl false))) (sNil)) (sNil)) (sNil)))))
      (mkE R m (.tup (y :: ys)) C p (some x) r6) S = some (.nx (mkE R m (.tup (y :: ys)) C p (some x) q6) S) := by
  have g1 := go_no (p := .non) (m := .int (-1)) (d := .non) fun S => rbw_brinks hx.br S
  have g2 := stay_no (p := .non) (m := .int (-1)) (d := .non) fun S => rbw_brinks hx.br S
  have l1 := marks_brinks w strStay (by decide +kernel) (inn_of _ (by decide +kernel)) (c := .non) (d := .non) hx.md
  refine ⟨some (madeOf x ys), ?_⟩
  refine q_ref st_brinks (ds := [x, .non, .int (-1), .non]) rfl rfl (ref_go g1) ?_
  refine q_ref st_brinks (ds := [x, .non, .int (-1), .non]) rfl rfl (ref_stay g2) ?_
  refine q_set (made_val hx.t hx.l hy (k := 1) rfl rfl S) ?_
  exact q_ref st_marks (ds := [wb R m, .str "stay", madeOf x ys, .non, .non]) rfl rfl (ref_led l1) rfl
theorem coin_turn (w : WK n R m) {y : D} {ys : List D} (hy : ys.length ≤ 1000) {x : D} (hx : BadC n ys x) (S : Store) : ∃ q6,
    (sSeq (sIf (dBin oNe (dFn 2 O__law_refused (dCons (dC (.fn "coin_word")) (dCons (dLst (dCons (dVar 5) (dCons (dC .non) (dCons (dC .non) (dNil))))) (dNil)))) (dTup (dCons (dC (.str "coins")) (dCons (dUn oNeg (dC (.int 1))) (dNil))))) (sSeq (sRet (dC (.bl false))) (sNil)) (sNil)) (sSeq (sSet 6 (dIf (dTru (dIsi "tuple" (dVar 5))) (dBin oPlus (dVar 5) (dCut (dVar 2) (some (dC (.int 1))) none)) (dVar 5))) (sSeq (sIf (dBin oNe (dFn 2 O__law_refused (dCons (dC (.fn "led")) (dCons (dLst (dCons (dVar 0) (dCons (dC (.str "coin")) (dCons (dVar 6) (dCons (dC .non) (dCons (dC .non) (dNil))))))) (dNil)))) (dTup (dCons (dC (.str "marks")) (dCons (dUn oNeg (dC (.int 1))) (dNil))))) (sSeq (sRet (dC (.bl false))) (sNil)) (sNil)) (sNil))))
      (mkE R m B (.tup (y :: ys)) p (some x) r6) S = some (.nx (mkE R m B (.tup (y :: ys)) p (some x) q6) S) := by
  have g1 := fun S => coin_coins (p := .non) (d := .non) hx.br S
  have l1 := marks_coins w (c := .non) (d := .non) hx.md
  refine ⟨some (madeOf x ys), ?_⟩
  refine q_ref st_coins (ds := [x, .non, .non]) rfl rfl (ref_coin g1) ?_
  refine q_set (made_val hx.t hx.l hy (k := 2) rfl rfl S) ?_
  exact q_ref st_marks (ds := [wb R m, .str "coin", madeOf x ys, .non, .non]) rfl rfl (ref_led l1) rfl
theorem manner_turn (w : WK n R m) {x : D} (hx : ∀ S, oIn x (.tup [.str "go", .str "stay", .str "coin"]) S = some (.ok (.bl false) S)) (S : Store) :
    (sSeq (sIf (dBin oNe (dFn 2 O__law_refused (dCons (dC (.fn "led")) (dCons (dLst (dCons (dVar 0) (dCons (dVar 5) (dCons (dC .non) (dCons (dC .non) (dCons (dC .non) (dNil))))))) (dNil)))) (dTup (dCons (dC (.str "manner")) (dCons (dUn oNeg (dC (.int 1))) (dNil))))) (sSeq (sRet (dC (.bl false))) (sNil)) (sNil)) (sNil))
      (mkE R m B C p (some x) r6) S = some (.nx (mkE R m B C p (some x) r6) S) :=
  q_ref st_manner (ds := [wb R m, x, .non, .non, .non]) rfl rfl (ref_led (fun S => led_manner w hx S)) rfl
theorem dice_turn (w : WK n R m) {stay : Nat → Nat → Int → Int → Bool} (hm : Man n "go" B stay) (hp : p < n) {x : D} (hx : ∀ S, O_are_dice [x] S = some (.ok (.bl false) S)) (S : Store) :
    (sSeq (sIf (dBin oNe (dFn 2 O__law_refused (dCons (dC (.fn "led")) (dCons (dLst (dCons (dVar 0) (dCons (dC (.str "go")) (dCons (dVar 1) (dCons (dVar 3) (dCons (dVar 5) (dNil))))))) (dNil)))) (dTup (dCons (dC (.str "dice")) (dCons (dUn oNeg (dC (.int 1))) (dNil))))) (sSeq (sRet (dC (.bl false))) (sNil)) (sNil)) (sNil))
      (mkE R m B C p (some x) r6) S = some (.nx (mkE R m B C p (some x) r6) S) :=
  q_ref st_dice (ds := [wb R m, .str "go", B, .int (p : Nat), x]) rfl rfl (ref_led (fun S => led_dice w hm (c := .int (p : Nat)) rfl (below_ok hp) hx S)) rfl
end
end My
set_option Elab.async false
set_option linter.all false
set_option maxRecDepth 100000
set_option maxHeartbeats 1000000
set_option exponentiation.threshold 20000
namespace My
open PySem PySem.Spec PyProof.Rows L2 PD
/-! ### all marks that are refused -/
def badMan : List D := [.non, .str "Go", .str "", .int 0, .tup [.str "go"], .str "gone"]
theorem badMan_bad : ∀ x ∈ badMan, ∀ S, oIn x (.tup [.str "go", .str "stay", .str "coin"]) S = some (.ok (.bl false) S) := fun x hx S => by
  have fl : ∀ {a : D}, flatD a = true → ([D.str "go", .str "stay", .str "coin"].any fun y => eqF y a) = false → oIn a (.tup [.str "go", .str "stay", .str "coin"]) S = some (.ok (.bl false) S) := fun {a} h1 h2 => by
    unfold oIn
    simp only [asSeq]
    rw [if_pos (by rw [h1]; rfl), h2]
  simp only [badMan, List.mem_cons, List.not_mem_nil, or_false] at hx
  rcases hx with rfl | rfl | rfl | rfl | rfl | rfl
  · exact fl rfl rfl
  · exact fl rfl (by decide +kernel)
  · exact fl rfl (by decide +kernel)
  · exact fl rfl rfl
  · have h1 : PyData.strOk "go" = true := strGo
    have h2 : PyData.strOk "stay" = true := strStay
    have h3 : PyData.strOk "coin" = true := strCoin
    simp [oIn, oInT, asSeq, flatD, toPy, pyr, pyrs, SeqAt.shaped, PyData.eqv, PyData.canLay0, PyData.canLayAll0, PyData.depth, PyData.depthAll, h1, h2, h3]
  · exact fl rfl (by decide +kernel)
def badDices : List D := [.non, .lst [.tup [half, half]], .tup [half, half], .tup [.tup [half]], .tup [.tup [half, half, half]], .tup [.lst [half, half]], half, .tup [.non]]
def okPb (d : D) : Bool := told d && (match d with
  | .tup [x, y] => (tell x && smallQ x) && (tell y && smallQ y)
  | _ => true)
def okPs : D → Bool
  | .tup xs => decide (xs.length ≤ 1000) && xs.all okPb
  | _ => true
theorem badDices_bad : ∀ x ∈ badDices, ∀ S, O_are_dice [x] S = some (.ok (.bl false) S) := fun x hx S => by
  have : ∀ x ∈ badDices, (told x && okPs x && !diceB x) = true := by decide +kernel
  have := this x hx
  simp only [Bool.and_eq_true, Bool.not_eq_true'] at this
  obtain ⟨⟨h1, h2⟩, h3⟩ := this
  have e := v_are_dice S x h1 fun xs e => by
    subst e
    simp only [okPs, Bool.and_eq_true, decide_eq_true_eq, List.all_eq_true] at h2
    refine ⟨h2.1, fun z hz => ?_⟩
    have k := h2.2 z hz
    simp only [okPb, Bool.and_eq_true] at k
    refine ⟨k.1, fun u v e => ?_⟩
    subst e
    have k2 := k.2
    simp only [Bool.and_eq_true] at k2
    exact k2
  rwa [h3] at e
section
variable {n : Nat} {R : List (List Int)} {m : Int} {S : Store} {b : Nat → Option (Nat × Int × Int)} {c : Nat → Int × Int} {B C : D} {p : Nat} {r6 : Option D}
theorem bl_cons (n1 : 1 ≤ n) : ∃ y ys, bl_ n b = y :: ys ∧ ys.length + 1 = n := by
  have : (bl_ n b).length = n := by simp [bl_]
  match h : bl_ n b with
  | [] => rw [h] at this; simp at this; omega
  | y :: ys => rw [h] at this; exact ⟨y, ys, rfl, by simpa using this⟩
theorem cn_cons (n1 : 1 ≤ n) : ∃ y ys, cn n c = y :: ys ∧ ys.length + 1 = n := by
  have : (cn n c).length = n := by simp [cn]
  match h : cn n c with
  | [] => rw [h] at this; simp at this; omega
  | y :: ys => rw [h] at this; exact ⟨y, ys, rfl, by simpa using this⟩
theorem v_marks_refused (w : WK n R m) (hb : ∀ i < n, GoodB (b i)) (hc : ∀ i < n, Coin (c i).1 (c i).2) {p : Nat} (hp : p < n) (S : Store) : O__law_marks_refused [wb R m, .tup (bl_ n b), .tup (cn n c), .int (p : Nat)] S = some (.ok (.bl true) S) := by
  refine fn_rtS ?_ rfl
  have n1 := w.n1
  have n8 := w.n8
  simp only [D__law_marks_refused]
  rw [show startD ["_law_web_here", "_law_brinks_here", "_law_coins_here", "_law_place", "_law_half", "_law_one", "_law_marks"] [wb R m, .tup (bl_ n b), .tup (cn n c), .int (p : Nat)] = [some (wb R m), some (.tup (bl_ n b)), some (.tup (cn n c)), some (.int (p : Nat)), none, none, none] from rfl]
  have bw := bl_BW n1 (show n ≤ 1000 by omega) hb
  have mg := man_go n1 (show n ≤ 1000 by omega) hb
  have okb := (bl_ok (n := n) (b := b) (by omega) hb _ rfl).2
  have okc := (cn_ok (n := n) (c := c) (by omega) hc _ rfl).2
  obtain ⟨y, ys, ey, ly⟩ := bl_cons (b := b) n1
  obtain ⟨z, zs, ez, lz⟩ := cn_cons (c := c) n1
  rw [ey] at bw mg okb ⊢
  rw [ez] at okc ⊢
  have okys : ∀ x ∈ ys, okK x := fun x hx => okb x (List.mem_cons_of_mem _ hx)
  have okzs : ∀ x ∈ zs, okQ x := fun x hx => okc x (List.mem_cons_of_mem _ hx)
  refine q_set (d := half) rfl ?_
  refine q_forI (P := fun ρ => ∃ r5, ρ = mkE R m (.tup (y :: ys)) (.tup (z :: zs)) p r5 none) (items := [.non, .int (-1), .bl true, .tup [.int 0]]) (x_items (d := .lst [.non, .int (-1), .bl true, .tup [.int 0]]) rfl rfl) ⟨none, rfl⟩ (fun x hx ρ hρ => ?_) (fun ρ hρ => ?_)
  · obtain ⟨r5, rfl⟩ := hρ
    have h : told x = true ∧ numb x = false := by
      simp only [List.mem_cons, List.not_mem_nil, or_false] at hx
      rcases hx with rfl | rfl | rfl | rfl <;> exact ⟨rfl, rfl⟩
    exact ⟨_, _, rfl, many_turn bw hp h.1 h.2 S, ⟨some x, rfl⟩⟩
  obtain ⟨r5, rfl⟩ := hρ
  refine q_forI (P := fun ρ => ∃ r5 r6, ρ = mkE R m (.tup (y :: ys)) (.tup (z :: zs)) p r5 r6) (items := .non :: .tup [] :: .lst (y :: ys) :: badBr.map fun x => .tup [x]) (x_items (d := .lst (.non :: .tup [] :: .lst (y :: ys) :: badBr.map fun x => .tup [x])) rfl rfl) ⟨r5, none, rfl⟩ (fun x hx ρ hρ => ?_) (fun ρ hρ => ?_)
  · obtain ⟨r5, r6, rfl⟩ := hρ
    have h : BadB n ys x := by
      simp only [List.mem_cons, List.mem_map] at hx
      rcases hx with rfl | rfl | rfl | ⟨k, hk, rfl⟩
      · exact badB_flat rfl fun xs e => by cases e
      · exact badB_none ly (by omega) okys
      · exact badB_flat rfl fun xs e => by cases e
      · exact badB_one ly (by omega) okys (badBr_bad k hk).1 (badBr_bad k hk).2
    obtain ⟨q6, e⟩ := brink_turn (C := .tup (z :: zs)) (p := p) (r6 := r6) (y := y) w (by omega) h S
    exact ⟨_, _, rfl, e, ⟨some x, q6, rfl⟩⟩
  obtain ⟨r5, r6, rfl⟩ := hρ
  refine q_forI (P := fun ρ => ∃ r5 r6, ρ = mkE R m (.tup (y :: ys)) (.tup (z :: zs)) p r5 r6) (items := .non :: .tup [] :: .lst (z :: zs) :: badCo.map fun x => .tup [x]) (x_items (d := .lst (.non :: .tup [] :: .lst (z :: zs) :: badCo.map fun x => .tup [x])) rfl rfl) ⟨r5, r6, rfl⟩ (fun x hx ρ hρ => ?_) (fun ρ hρ => ?_)
  · obtain ⟨r5, r6, rfl⟩ := hρ
    have h : BadC n zs x := by
      simp only [List.mem_cons, List.mem_map] at hx
      rcases hx with rfl | rfl | rfl | ⟨k, hk, rfl⟩
      · exact badC_flat rfl fun xs e => by cases e
      · exact badC_none lz (by omega) okzs
      · exact badC_flat rfl fun xs e => by cases e
      · exact badC_one lz (by omega) okzs (badCo_bad k hk).1 (badCo_bad k hk).2
    obtain ⟨q6, e⟩ := coin_turn (B := .tup (y :: ys)) (p := p) (r6 := r6) (y := z) w (by omega) h S
    exact ⟨_, _, rfl, e, ⟨some x, q6, rfl⟩⟩
  obtain ⟨r5, r6, rfl⟩ := hρ
  refine q_forI (P := fun ρ => ∃ r5, ρ = mkE R m (.tup (y :: ys)) (.tup (z :: zs)) p r5 r6) (items := badMan) (x_items (d := .lst badMan) rfl rfl) ⟨r5, rfl⟩ (fun x hx ρ hρ => ?_) (fun ρ hρ => ?_)
  · obtain ⟨r5, rfl⟩ := hρ
    exact ⟨_, _, rfl, manner_turn w (badMan_bad x hx) S, ⟨some x, rfl⟩⟩
  obtain ⟨r5, rfl⟩ := hρ
  refine q_forI (P := fun ρ => ∃ r5, ρ = mkE R m (.tup (y :: ys)) (.tup (z :: zs)) p r5 r6) (items := badDices) (x_items (d := .lst badDices) rfl rfl) ⟨r5, rfl⟩ (fun x hx ρ hρ => ?_) (fun ρ hρ => ?_)
  · obtain ⟨r5, rfl⟩ := hρ
    exact ⟨_, _, rfl, dice_turn w mg hp (badDices_bad x hx) S, ⟨some x, rfl⟩⟩
  obtain ⟨r5, rfl⟩ := hρ
  have l1 := marks_brinks w strGo (by decide +kernel) (inn_of _ (by decide +kernel)) (c := .non) (d := .non) (badB_none ly (by omega) okys).md
  have ct : dCut (dVar 1) (some (dC (.int 1))) none (mkE R m (.tup (y :: ys)) (.tup (z :: zs)) p r5 r6) S = some (.ok (.tup ys) S) := by
    refine (x_cut (i := some 1) (j := none) (a := .tup (y :: ys)) rfl rfl trivial).trans ?_
    simp only [oCut, cut_from1]
  refine q_ret (x_bin (x_f2 (f1 := dC (.fn "led")) rfl (x_lst (ds := [wb R m, .str "go", .tup ys, .non, .non]) (y_cons rfl (y_cons rfl (y_cons ct (y_cons rfl (y_cons rfl y_nil))))) rfl) (ref_led l1)) (x_tup (y_cons rfl (y_cons rfl y_nil)) rfl) ((oEq_of (eq_ref st_marks S)).trans rfl))
end
end My
set_option Elab.async false
set_option linter.all false
set_option maxRecDepth 100000
set_option maxHeartbeats 1000000
set_option exponentiation.threshold 20000
namespace My
open PySem PySem.Spec PyProof.Rows L2 PD
/-! ### the law's turns -/
abbrev lwE (ns xs : List Int) (kd : Int) (bn many n : Nat) (R : List (List Int)) (m : Int) (bs os cs : List D) (p : Nat) (r11 r12 r13 r14 r15 r16 : Option D) : EnvD := [some (.scr ns), some (.lst (xs.map .int)), some (.int kd), some (.int (bn : Nat)), some (.int (many : Nat)), some (.int (n : Nat)), some (wb R m), some (.tup bs), some (.tup os), some (.tup cs), some (.int (p : Nat)), r11, r12, r13, r14, r15, r16, none]
theorem q_ifAny {t : Den} {sa rest : SDen} {ρ : EnvD} {S : Store} {R : Option SRes} (h : ∃ q, t ρ S = some (.ok (.bl q) S)) (h2 : sa ρ S = some (.nx ρ S)) (k : rest ρ S = R) : sSeq (sIf t sa sNil) rest ρ S = R := by
  obtain ⟨q, e⟩ := h
  cases q
  · exact q_ifF e k
  · exact q_ifT e h2 k
theorem x_orAny {f g : Den} {ρ : EnvD} {S : Store} (h1 : ∃ q, f ρ S = some (.ok (.bl q) S)) (h2 : ∃ q, g ρ S = some (.ok (.bl q) S)) : ∃ q, dOr f g ρ S = some (.ok (.bl q) S) := by
  obtain ⟨p, e1⟩ := h1
  obtain ⟨q, e2⟩ := h2
  exact ⟨_, x_or e1 fun _ => e2⟩
section
variable {ns xs : List Int} {kd : Int} {bn many n : Nat} {R : List (List Int)} {m : Int} {bs os cs : List D} {p : Nat} {r13 r14 r15 r16 : Option D} {S : Store}
theorem man_test {s : Str} {M : D} (hs : PyData.strOk s = true) (hx : xs.length = 24) (S : Store) : ∃ q, dOr (dBin oIn (dVar 2) (dTup (dCons (dC (.int 0)) (dCons (dC (.int 1)) (dCons (dC (.int 4)) (dNil)))))) (dBin oEq (dVar 11) (dBin oIx (dLst (dCons (dC (.str "go")) (dCons (dC (.str "stay")) (dCons (dC (.str "coin")) (dNil))))) (dBin oMod (dBin oIx (dVar 1) (dC (.int 15))) (dC (.int 3))))) (lwE ns xs kd bn many n R m bs os cs p (some (.str s)) (some M) r13 r14 r15 r16) S = some (.ok (.bl q) S) := by
  refine x_orAny ⟨_, x_bin rfl (x_tup (y_cons rfl (y_cons rfl (y_cons rfl y_nil))) rfl) (by
    unfold oIn
    simp only [asSeq]
    exact if_pos rfl)⟩ ?_
  obtain ⟨c0, c1⟩ := mod_b (gt xs 15) (show (0 : Int) < 3 by decide)
  have md : dBin oMod (dBin oIx (dVar 1) (dC (.int 15))) (dC (.int 3)) (lwE ns xs kd bn many n R m bs os cs p (some (.str s)) (some M) r13 r14 r15 r16) S = some (.ok (.int (((gt xs 15 % 3).toNat : Nat) : Int)) S) := by
    rw [Int.toNat_of_nonneg c0]
    exact x_bin (x_bin rfl rfl (ixLi (i := 15) (by omega) S)) rfl (o_mod (by decide) S)
  have ls : dLst (dCons (dC (.str "go")) (dCons (dC (.str "stay")) (dCons (dC (.str "coin")) (dNil)))) (lwE ns xs kd bn many n R m bs os cs p (some (.str s)) (some M) r13 r14 r15 r16) S = some (.ok (.lst [.str "go", .str "stay", .str "coin"]) S) := rfl
  have c2 : (gt xs 15 % 3).toNat < 3 := by omega
  generalize (gt xs 15 % 3).toNat = j at md c2
  by_cases h0 : j = 0
  · subst h0
    exact ⟨_, x_bin rfl (x_bin ls md (ixLst (i := 0) rfl S)) (o_eqS hs strGo S)⟩
  by_cases h1 : j = 1
  · subst h1
    exact ⟨_, x_bin rfl (x_bin ls md (ixLst (i := 1) rfl S)) (o_eqS hs strStay S)⟩
  by_cases h2 : j = 2
  · subst h2
    exact ⟨_, x_bin rfl (x_bin ls md (ixLst (i := 2) rfl S)) (o_eqS hs strCoin S)⟩
  · omega
theorem man_turn {s : Str} {ms : List D} (hs : PyData.strOk s = true) (hx : xs.length = 24) (h : O__law_all_dice [wb R m, .str s, .tup ms, .int (p : Nat), .int (bn : Nat), .int (many : Nat)] S = some (.ok (.bl true) S)) :
    (sSeq (sIf (dOr (dBin oIn (dVar 2) (dTup (dCons (dC (.int 0)) (dCons (dC (.int 1)) (dCons (dC (.int 4)) (dNil)))))) (dBin oEq (dVar 11) (dBin oIx (dLst (dCons (dC (.str "go")) (dCons (dC (.str "stay")) (dCons (dC (.str "coin")) (dNil))))) (dBin oMod (dBin oIx (dVar 1) (dC (.int 15))) (dC (.int 3)))))) (sSeq (sIf (dNot (dTru (dFn 6 O__law_all_dice (dCons (dVar 6) (dCons (dVar 11) (dCons (dVar 12) (dCons (dVar 10) (dCons (dVar 3) (dCons (dVar 4) (dNil)))))))))) (sSeq (sRet (dC (.bl false))) (sNil)) (sNil)) (sNil)) (sNil)) (sNil)) (lwE ns xs kd bn many n R m bs os cs p (some (.str s)) (some (.tup ms)) r13 r14 r15 r16) S = some (.nx (lwE ns xs kd bn many n R m bs os cs p (some (.str s)) (some (.tup ms)) r13 r14 r15 r16) S) :=
  q_ifAny (man_test hs hx S) (q_ifF (x_notT (x_fn (y_cons (f := dVar 6) rfl (y_cons (f := dVar 11) rfl (y_cons (f := dVar 12) rfl (y_cons (f := dVar 10) rfl (y_cons (f := dVar 3) rfl (y_cons (f := dVar 4) rfl y_nil)))))) rfl h)) rfl) rfl
end
end My
set_option Elab.async false
set_option linter.all false
set_option maxRecDepth 100000
set_option maxHeartbeats 1000000
set_option exponentiation.threshold 20000
namespace My
open PySem PySem.Spec PyProof.Rows L2 PD
section
variable {ns xs : List Int} {kd : Int} {bn many n : Nat} {R : List (List Int)} {m : Int} {p : Nat} {r11 r12 r16 : Option D} {S : Store} {b o : Nat → Option (Nat × Int × Int)} {c : Nat → Int × Int}
/-- the turn's die -/
theorem die_num (hx : xs.length = 24) (nn : ∀ x ∈ xs, 0 ≤ x ∧ x < 100000007) {k : Nat} (hk : k < 16) {ρ : EnvD} (h1 : ρ[1]? = some (some (.lst (xs.map .int)))) (h13 : ρ[13]? = some (some (.int (k : Nat)))) (S : Store) :
    ∃ x y, Die x y ∧ dFn 2 O__law_lowest (dCons (dBin oMod (dCall oInt1 (dCons (dBin oDiv (dBin oIx (dVar 1) (dBin oPlus (dC (.int 16)) (dBin oMod (dVar 13) (dC (.int 8))))) (dBin oIx (dLst (dCons (dC (.int 1)) (dCons (dC (.int 60)) (dNil)))) (dBin oDiv (dVar 13) (dC (.int 8))))) (dNil))) (dC (.int 60))) (dCons (dC (.int 60)) (dNil))) ρ S = some (.ok (pr x y) S) := by
  have v1 : dVar 1 ρ S = some (.ok (.lst (xs.map .int)) S) := by rw [e_var, h1]
  have v13 : dVar 13 ρ S = some (.ok (.int (k : Nat)) S) := by rw [e_var, h13]
  have i1 : dBin oPlus (dC (.int 16)) (dBin oMod (dVar 13) (dC (.int 8))) ρ S = some (.ok (.int ((16 + k % 8 : Nat) : Int)) S) := by
    refine (x_bin rfl (x_bin v13 rfl (o_mod (by decide) S)) (e_addI _ _ S)).trans ?_
    rw [show (16 : Int) + (k : Int) % 8 = ((16 + k % 8 : Nat) : Int) by omega]
  have a1 := x_bin v1 i1 (ixLi (i := 16 + k % 8) (by omega) S)
  have q1 : dBin oDiv (dVar 13) (dC (.int 8)) ρ S = some (.ok (.int ((k : Int) / 8)) S) := x_bin v13 rfl (o_divI (by decide) (by decide) S)
  obtain ⟨gm, gx⟩ := ixI [1, 60] ((k : Int) / 8) (by omega) (by simp; omega)
  have a2 : dBin oIx (dLst (dCons (dC (.int 1)) (dCons (dC (.int 60)) (dNil)))) (dBin oDiv (dVar 13) (dC (.int 8))) ρ S = some (.ok (.int (gt [1, 60] ((k : Int) / 8).toNat)) S) := x_bin (x_lst (ds := ([1, 60] : List Int).map .int) rfl rfl) q1 (gx S)
  generalize gt [1, 60] ((k : Int) / 8).toNat = g at gm a2
  have g1 : 0 < g ∧ g.natAbs.log2 < 9000 := by
    simp only [List.mem_cons, List.not_mem_nil, or_false] at gm
    rcases gm with rfl | rfl
    · exact ⟨by decide, by decide⟩
    · exact ⟨by decide, by decide⟩
  obtain ⟨m0, m1⟩ := mod_b (gt xs (16 + k % 8) / g) (show (0 : Int) < 60 by decide)
  exact ⟨_, _, (low_ok m0 (by decide)).die m1 (by decide), x_f2 (x_bin (x_c1 (x_bin a1 a2 (o_divI g1.1 g1.2 S)) rfl) rfl (o_mod (by decide) S)) rfl (v_lowest m0 (by omega) (by decide) (by decide) S)⟩
theorem die_small {k : Nat} (b1 : 1 ≤ bn) (b2 : bn ≤ 60) {ρ : EnvD} (h3 : ρ[3]? = some (some (.int (bn : Nat)))) (h13 : ρ[13]? = some (some (.int (k : Nat)))) (S : Store) :
    ∃ x y, Die x y ∧ dFn 2 O__law_lowest (dCons (dBin oMod (dBin oDiv (dVar 13) (dC (.int 3))) (dVar 3)) (dCons (dVar 3) (dNil))) ρ S = some (.ok (pr x y) S) := by
  have v3 : dVar 3 ρ S = some (.ok (.int (bn : Nat)) S) := by rw [e_var, h3]
  have v13 : dVar 13 ρ S = some (.ok (.int (k : Nat)) S) := by rw [e_var, h13]
  obtain ⟨m0, m1⟩ := mod_b ((k : Int) / 3) (show (0 : Int) < (bn : Int) by omega)
  exact ⟨_, _, (low_ok m0 (by omega)).die m1 (by omega), x_f2 (x_bin (x_bin v13 rfl (o_divI (by decide) (by decide) S)) v3 (o_mod (by omega) S)) v3 (v_lowest m0 (by omega) (by omega) (by omega) S)⟩
theorem turn16 (w : WK n R m) (hb : ∀ i < n, GoodB (b i)) (ho : ∀ i < n, GoodB (o i)) (hc : ∀ i < n, Coin (c i).1 (c i).2) (hx : xs.length = 24) (nn : ∀ x ∈ xs, 0 ≤ x ∧ x < 100000007) (b1 : 1 ≤ bn) (b2 : bn ≤ 60) {k : Nat} (hk : k < 16) (r14 r15 : Option D) (S : Store) : ∃ q14 q15,
    (sSeq (sSet 14 (dFn 2 O__law_lowest (dCons (dBin oMod (dCall oInt1 (dCons (dBin oDiv (dBin oIx (dVar 1) (dBin oPlus (dC (.int 16)) (dBin oMod (dVar 13) (dC (.int 8))))) (dBin oIx (dLst (dCons (dC (.int 1)) (dCons (dC (.int 60)) (dNil)))) (dBin oDiv (dVar 13) (dC (.int 8))))) (dNil))) (dC (.int 60))) (dCons (dC (.int 60)) (dNil))))) (sSeq (sIf (dBin oEq (dBin oMod (dVar 13) (dC (.int 3))) (dC (.int 0))) (sSeq (sSet 14 (dFn 2 O__law_lowest (dCons (dBin oMod (dBin oDiv (dVar 13) (dC (.int 3))) (dVar 3)) (dCons (dVar 3) (dNil))))) (sNil)) (sNil)) (sSeq (sSet 15 (dBin oMod (dCall oInt1 (dCons (dBin oPlus (dVar 10) (dVar 13)) (dNil))) (dVar 5))) (sSeq (sIf (dOr (dIsNB true (dFnK 1 1 [0] O_is_die (dCons (dVar 14) (dNil)))) (dNot (dTru (dFn 6 O__law_words (dCons (dVar 6) (dCons (dVar 7) (dCons (dVar 9) (dCons (dVar 15) (dCons (dBin oMod (dVar 13) (dC (.int 5))) (dCons (dVar 14) (dNil))))))))))) (sSeq (sRet (dC (.bl false))) (sNil)) (sNil)) (sSeq (sIf (dNot (dTru (dFn 6 O__law_words (dCons (dVar 6) (dCons (dVar 8) (dCons (dVar 9) (dCons (dVar 15) (dCons (dBin oMod (dVar 13) (dC (.int 3))) (dCons (dVar 14) (dNil)))))))))) (sSeq (sRet (dC (.bl false))) (sNil)) (sNil)) (sNil))))))
      (lwE ns xs kd bn many n R m (bl_ n b) (bl_ n o) (cn n c) p r11 r12 (some (.int (k : Nat))) r14 r15 r16) S = some (.nx (lwE ns xs kd bn many n R m (bl_ n b) (bl_ n o) (cn n c) p r11 r12 (some (.int (k : Nat))) q14 q15 r16) S) := by
  have n1 := w.n1
  obtain ⟨x0, y0, d0, e0⟩ := die_num (ρ := lwE ns xs kd bn many n R m (bl_ n b) (bl_ n o) (cn n c) p r11 r12 (some (.int (k : Nat))) r14 r15 r16) hx nn hk rfl rfl S
  obtain ⟨x1, y1, d1, e1⟩ := die_small (ρ := lwE ns xs kd bn many n R m (bl_ n b) (bl_ n o) (cn n c) p r11 r12 (some (.int (k : Nat))) (some (pr x0 y0)) r15 r16) b1 b2 rfl rfl S
  have tail : ∀ x y, Die x y → ∃ q15, (sSeq (sSet 15 (dBin oMod (dCall oInt1 (dCons (dBin oPlus (dVar 10) (dVar 13)) (dNil))) (dVar 5))) (sSeq (sIf (dOr (dIsNB true (dFnK 1 1 [0] O_is_die (dCons (dVar 14) (dNil)))) (dNot (dTru (dFn 6 O__law_words (dCons (dVar 6) (dCons (dVar 7) (dCons (dVar 9) (dCons (dVar 15) (dCons (dBin oMod (dVar 13) (dC (.int 5))) (dCons (dVar 14) (dNil))))))))))) (sSeq (sRet (dC (.bl false))) (sNil)) (sNil)) (sSeq (sIf (dNot (dTru (dFn 6 O__law_words (dCons (dVar 6) (dCons (dVar 8) (dCons (dVar 9) (dCons (dVar 15) (dCons (dBin oMod (dVar 13) (dC (.int 3))) (dCons (dVar 14) (dNil)))))))))) (sSeq (sRet (dC (.bl false))) (sNil)) (sNil)) (sNil)))) (lwE ns xs kd bn many n R m (bl_ n b) (bl_ n o) (cn n c) p r11 r12 (some (.int (k : Nat))) (some (pr x y)) r15 r16) S = some (.nx (lwE ns xs kd bn many n R m (bl_ n b) (bl_ n o) (cn n c) p r11 r12 (some (.int (k : Nat))) (some (pr x y)) q15 r16) S) := fun x y d => by
    obtain ⟨p0, p1⟩ := mod_b ((p : Int) + (k : Int)) (show (0 : Int) < (n : Int) by omega)
    obtain ⟨q, hq⟩ : ∃ q : Nat, ((p : Int) + (k : Int)) % (n : Int) = q := ⟨_, (Int.toNat_of_nonneg p0).symm⟩
    rw [hq] at p1
    have hq2 : q < n := by omega
    refine ⟨some (.int (q : Nat)), ?_⟩
    have md := o_mod (a := (p : Int) + (k : Int)) (b := (n : Int)) (by omega) S
    rw [hq] at md
    refine q_set (x_bin (x_c1 (x_bin (f := dVar 10) (g := dVar 13) rfl rfl (e_addI _ _ S)) rfl) rfl md) ?_
    have is := v_is_die S _ d.ok
    rw [d.die] at is
    have m5 : dBin oMod (dVar 13) (dC (.int 5)) (lwE ns xs kd bn many n R m (bl_ n b) (bl_ n o) (cn n c) p r11 r12 (some (.int (k : Nat))) (some (pr x y)) (some (.int (q : Nat))) r16) S = some (.ok (.int ((k % 5 : Nat) : Int)) S) := x_bin rfl rfl (o_mod (by decide) S)
    have m3 : dBin oMod (dVar 13) (dC (.int 3)) (lwE ns xs kd bn many n R m (bl_ n b) (bl_ n o) (cn n c) p r11 r12 (some (.int (k : Nat))) (some (pr x y)) (some (.int (q : Nat))) r16) S = some (.ok (.int ((k % 3 : Nat) : Int)) S) := x_bin rfl rfl (o_mod (by decide) S)
    have w1 := v_words w hb hc hq2 (k % 5) d S
    have w2 := v_words w ho hc hq2 (k % 3) d S
    refine q_ifF (x_orF (x_isNB (x_k1 (f1 := dVar 14) rfl is)) (x_notT (x_fn (y_cons (f := dVar 6) rfl (y_cons (f := dVar 7) rfl (y_cons (f := dVar 9) rfl (y_cons (f := dVar 15) rfl (y_cons m5 (y_cons (f := dVar 14) rfl y_nil)))))) rfl w1))) ?_
    exact q_ifF (x_notT (x_fn (y_cons (f := dVar 6) rfl (y_cons (f := dVar 8) rfl (y_cons (f := dVar 9) rfl (y_cons (f := dVar 15) rfl (y_cons m3 (y_cons (f := dVar 14) rfl y_nil)))))) rfl w2)) rfl
  have t0 : ∀ z, dBin oEq (dBin oMod (dVar 13) (dC (.int 3))) (dC (.int 0)) (lwE ns xs kd bn many n R m (bl_ n b) (bl_ n o) (cn n c) p r11 r12 (some (.int (k : Nat))) (some z) r15 r16) S = some (.ok (.bl ((k : Int) % 3 == 0)) S) := fun z => x_bin (x_bin rfl rfl (o_mod (by decide) S)) rfl (o_eqI _ _ S)
  cases h : ((k : Int) % 3 == 0)
  · obtain ⟨q15, e⟩ := tail x0 y0 d0
    refine ⟨_, q15, q_set e0 (q_ifF ?_ e)⟩
    rw [← h]
    exact t0 _
  · obtain ⟨q15, e⟩ := tail x1 y1 d1
    refine ⟨_, q15, q_set e0 (q_ifT ?_ (q_set e1 rfl) e)⟩
    rw [← h]
    exact t0 _
end
end My
set_option Elab.async false
set_option linter.all false
set_option maxRecDepth 100000
set_option maxHeartbeats 1000000
set_option exponentiation.threshold 20000
namespace My
open PySem PySem.Spec PyProof.Rows L2 PD
section
/-- bottoms and how many dice -/
theorem kinds {kd : Int} (h0 : 0 ≤ kd) (h1 : kd < 5) : ∃ bn many : Nat, (∀ S, oIx (.lst (([2, 3, 2, 4, 6] : List Int).map .int)) (.int kd) S = some (.ok (.int (bn : Nat)) S)) ∧ (∀ S, oIx (.lst (([3, 2, 4, 2, 1] : List Int).map .int)) (.int kd) S = some (.ok (.int (many : Nat)) S)) ∧ 1 ≤ bn ∧ bn ≤ 60 ∧ many ≤ 4 ∧ (bn * bn) ^ many ≤ 1000 := by
  have go : ∀ (j : Nat), j < 5 → ∃ bn many : Nat, gt [2, 3, 2, 4, 6] j = bn ∧ gt [3, 2, 4, 2, 1] j = many ∧ 1 ≤ bn ∧ bn ≤ 60 ∧ many ≤ 4 ∧ (bn * bn) ^ many ≤ 1000 := fun j hj => by
    match j, hj with
    | 0, _ => exact ⟨2, 3, rfl, rfl, by decide, by decide, by decide, by decide⟩
    | 1, _ => exact ⟨3, 2, rfl, rfl, by decide, by decide, by decide, by decide⟩
    | 2, _ => exact ⟨2, 4, rfl, rfl, by decide, by decide, by decide, by decide⟩
    | 3, _ => exact ⟨4, 2, rfl, rfl, by decide, by decide, by decide, by decide⟩
    | 4, _ => exact ⟨6, 1, rfl, rfl, by decide, by decide, by decide, by decide⟩
    | j + 5, h => omega
  obtain ⟨_, e1⟩ := ixI [2, 3, 2, 4, 6] kd h0 (by simpa using h1)
  obtain ⟨_, e2⟩ := ixI [3, 2, 4, 2, 1] kd h0 (by simpa using h1)
  obtain ⟨bn, many, a, b, r⟩ := go kd.toNat (by omega)
  rw [a] at e1
  rw [b] at e2
  exact ⟨bn, many, e1, e2, r⟩
theorem eq_way (p : Int) (b : Bool) (S : Store) : eqD S (.tup [.tup [.int p], .bl b]) (.tup [.tup [.int p], .bl b]) = some true := by
  simp [eqD, toPy, pyr, pyrs, pyg, SeqAt.shaped, PyData.eqv, PyData.eqvAll, PyData.canLay0, PyData.canLayAll0, PyData.depth, PyData.depthAll]
variable {n : Nat}
theorem sure_coin : Coin 1 1 := ⟨by decide +kernel, by decide, by decide, small_one, small_one⟩
theorem law_ok (S : Store) (ns : List Int) (hn : ns.length ≤ 63) : O_law [.scr ns] S = some (.ok (.bl true) S) := by
  obtain ⟨xs, hx, nn, en⟩ := v_numbers ns hn S
  have i_ : ∀ i : Nat, i < 24 → ∀ S, oIx (.lst (xs.map .int)) (.int (i : Nat)) S = some (.ok (.int (gt xs i)) S) := fun i hi S => ixLi (by omega) S
  obtain ⟨k0, k1⟩ := mod_b (gt xs 0) (show (0 : Int) < 5 by decide)
  obtain ⟨bn, many, ebn, emany, b1, b2, m4, hN⟩ := kinds k0 k1
  generalize hkd : gt xs 0 % 5 = kd at *
  obtain ⟨s0, s1⟩ := mod_b (gt xs 1) (show (0 : Int) < 2 by decide)
  obtain ⟨n, en2, n1, n3⟩ : ∃ n : Nat, 2 + gt xs 1 % 2 = (n : Int) ∧ 2 ≤ n ∧ n ≤ 3 := ⟨(2 + gt xs 1 % 2).toNat, by omega, by omega, by omega⟩
  obtain ⟨R, m, part, w, p1, eb, ew⟩ := v_lweb (n := n) (bn := bn) (at_ := 2) nn (by omega) (by omega) b1 b2 (by omega) S
  have p2 : part ≤ 60 := by
    have := w.m1
    have h1 : part * 1 ≤ part * m := Int.mul_le_mul_of_nonneg_left this (by omega)
    omega
  have e7 := v_brinks (xs := xs) (n := n) (b := (bn : Int)) (m := (many : Int)) (at_ := 5) (by omega) (by omega) (by omega) (by omega) (by omega) S
  have e8 := v_brinks (xs := xs) (n := n) (b := (bn : Int)) (m := (many : Int)) (at_ := 8) (by omega) (by omega) (by omega) (by omega) (by omega) S
  have e9 := v_coins (xs := xs) (n := n) (b := (bn : Int)) (at_ := 11) (by omega) (by omega) (by omega) (by omega) S
  have g7 : ∀ i < n, GoodB (brinkOf xs 5 bn many i) := fun i _ => brinkOf_good (by omega) (by omega) _ _ _
  have g8 : ∀ i < n, GoodB (brinkOf xs 8 bn many i) := fun i _ => brinkOf_good (by omega) (by omega) _ _ _
  have l7 : ∀ i < n, BLow bn (gt xs (5 + i) / 25 % bn) (brinkOf xs 5 bn many i) := fun i _ => brinkOf_low (by omega) _ _ _
  have l8 : ∀ i < n, BLow bn (gt xs (8 + i) / 25 % bn) (brinkOf xs 8 bn many i) := fun i _ => brinkOf_low (by omega) _ _ _
  have l9 : ∀ i < n, Low (gt xs (11 + i) % (bn + 1)) bn (coinOf xs 11 bn i).1 (coinOf xs 11 bn i).2 ∧ 0 ≤ gt xs (11 + i) % (bn + 1) ∧ gt xs (11 + i) % (bn + 1) ≤ (bn : Int) := fun i _ => coinOf_ok (by omega) (by omega) _ _
  have g9 : ∀ i < n, Coin (coinOf xs 11 bn i).1 (coinOf xs 11 bn i).2 := fun i hi => (l9 i hi).1.coin (l9 i hi).2.2 (by omega) (by omega)
  have ab : ∀ q : Int, 0 ≤ q % (bn : Int) ∧ q % (bn : Int) ≤ bn := fun q => by
    have := mod_b q (show (0 : Int) < bn by omega)
    omega
  obtain ⟨c0, c1⟩ := mod_b (gt xs 14) (show (0 : Int) < n by omega)
  obtain ⟨p, ep, hp⟩ : ∃ p : Nat, gt xs 14 % (n : Int) = p ∧ p < n := ⟨(gt xs 14 % (n : Int)).toNat, by omega, by omega⟩
  have bnb : bn < 200 := by omega
  have all_go := v_all_dice (many := many) (p := p) w (man_go (by omega) (by omega) g7) (sh_go b1 bnb l7 fun i _ => ab _) b1 b2 p1 p2 eb hp m4 hN (hsh_go b1 l7) S
  have all_stay := v_all_dice (many := many) (p := p) w (man_stay (by omega) (by omega) g8) (sh_stay b1 bnb l8 fun i _ => ab _) b1 b2 p1 p2 eb hp m4 hN (hsh_stay b1 l8) S
  have all_coin := v_all_dice (many := many) (p := p) w (man_coin (by omega) (by omega) g9) (sh_coin b1 bnb l9) b1 b2 p1 p2 eb hp m4 hN (hsh_coin b1 l9) S
  generalize brinkOf xs 5 bn many = f7 at *
  generalize brinkOf xs 8 bn many = f8 at *
  generalize coinOf xs 11 bn = f9 at *
  refine fn_rtS ?_ rfl
  simp only [D_law]
  rw [show startD ["_law_script", "_law_numbers_here", "_law_kind", "_law_bottom", "_law_many", "_law_size", "_law_web_here", "_law_brinks_here", "_law_others", "_law_coins_here", "_law_place", "_law_manner", "_law_marks", "_law_k", "_law_die", "_law_where", "_law_sure", "_law_i"] [.scr ns] = [some (.scr ns), none, none, none, none, none, none, none, none, none, none, none, none, none, none, none, none, none] from rfl]
  refine q_set (x_f2 (f1 := dVar 0) rfl rfl en) ?_
  refine q_set (d := .int kd) (x_bin (x_bin rfl rfl (i_ 0 (by decide) S)) rfl (by rw [← hkd]; exact o_mod (by decide) S)) ?_
  refine q_set (x_bin (x_lst (ds := ([2, 3, 2, 4, 6] : List Int).map .int) rfl rfl) rfl (ebn S)) ?_
  refine q_set (x_bin (x_lst (ds := ([3, 2, 4, 2, 1] : List Int).map .int) rfl rfl) rfl (emany S)) ?_
  refine q_set (d := .int (n : Nat)) (by rw [← en2]; exact x_bin rfl (x_bin (x_bin rfl rfl (i_ 1 (by decide) S)) rfl (o_mod (by decide) S)) (e_addI _ _ S)) ?_
  refine q_set (x_f4 (f1 := dVar 1) (f3 := dVar 5) (f4 := dVar 3) rfl rfl rfl rfl ew) ?_
  refine q_set (x_fn (y_cons (f := dVar 1) rfl (y_cons (f := dC (.int 5)) rfl (y_cons (f := dVar 5) rfl (y_cons (f := dVar 3) rfl (y_cons (f := dVar 4) rfl y_nil))))) rfl e7) ?_
  refine q_set (x_fn (y_cons (f := dVar 1) rfl (y_cons (f := dC (.int 8)) rfl (y_cons (f := dVar 5) rfl (y_cons (f := dVar 3) rfl (y_cons (f := dVar 4) rfl y_nil))))) rfl e8) ?_
  refine q_set (x_f4 (f1 := dVar 1) (f3 := dVar 5) (f4 := dVar 3) rfl rfl rfl rfl e9) ?_
  refine q_set (d := .int (p : Nat)) (by rw [← ep]; exact x_bin (x_bin rfl rfl (i_ 14 (by decide) S)) rfl (o_mod (by omega) S)) ?_
  refine q_for (ρ1 := lwE ns xs kd bn many n R m (bl_ n f7) (bl_ n f8) (cn n f9) p (some (.str "coin")) (some (.tup (cn n f9))) none none none none) (S2 := S) (x_items (d := .lst [.tup [.str "go", .tup (bl_ n f7)], .tup [.str "stay", .tup (bl_ n f8)], .tup [.str "coin", .tup (cn n f9)]]) rfl rfl) ?_ ?_
  · exact loop_cons_nx rfl (man_turn (r13 := none) (r14 := none) (r15 := none) (r16 := none) strGo hx all_go) (loop_cons_nx rfl (man_turn (r13 := none) (r14 := none) (r15 := none) (r16 := none) strStay hx all_stay) (loop_cons_nx rfl (man_turn (r13 := none) (r14 := none) (r15 := none) (r16 := none) strCoin hx all_coin) rfl))
  refine q_forI (P := fun ρ => ∃ r13 r14 r15, ρ = lwE ns xs kd bn many n R m (bl_ n f7) (bl_ n f8) (cn n f9) p (some (.str "coin")) (some (.tup (cn n f9))) r13 r14 r15 none) (items := rgD 0 16) (range1_of (n := 16) rfl (by decide)) ⟨none, none, none, rfl⟩ (fun x hx' ρ hρ => ?_) (fun ρ hρ => ?_)
  · obtain ⟨r13, r14, r15, rfl⟩ := hρ
    obtain ⟨k, hk, rfl⟩ := rg_mem hx'
    obtain ⟨q14, q15, e⟩ := turn16 (p := p) (kd := kd) (many := many) (ns := ns) (r11 := some (.str "coin")) (r12 := some (.tup (cn n f9))) (r16 := none) w g7 g8 g9 hx nn b1 b2 hk r14 r15 S
    exact ⟨_, _, rfl, e, ⟨_, _, _, rfl⟩⟩
  obtain ⟨r13, r14, r15, rfl⟩ := hρ
  have sure : dLc [17] (dItems (dVar 9)) (.one 17) (dYes) (dTup (dCons (dC (.int 1)) (dCons (dC (.int 1)) (dNil)))) (lwE ns xs kd bn many n R m (bl_ n f7) (bl_ n f8) (cn n f9) p (some (.str "coin")) (some (.tup (cn n f9))) r13 r14 r15 none) S = some (.ok (.lst (cn n fun _ => (1, 1))) S) := by
    have l := lc_map (own := [17]) (t := .one 17) (elt := dTup (dCons (dC (.int 1)) (dCons (dC (.int 1)) (dNil)))) (f := dItems (dVar 9)) (ρ := lwE ns xs kd bn many n R m (bl_ n f7) (bl_ n f8) (cn n f9) p (some (.str "coin")) (some (.tup (cn n f9))) r13 r14 r15 none) (S := S) (items := cn n f9) (fun _ => pr 1 1) (fun x => (lwE ns xs kd bn many n R m (bl_ n f7) (bl_ n f8) (cn n f9) p (some (.str "coin")) (some (.tup (cn n f9))) r13 r14 r15 none).set 17 (some x)) rfl (fun _ _ => rfl) (fun _ _ _ => rfl) (by simp [cn]; omega) (by simp [closeds_all, closed, closeds])
    rw [l]
    unfold cn
    rw [List.map_map]
    rfl
  refine q_set (x_c1 sure rfl) ?_
  have l1 := v_led w (man_coin (c := fun _ => (1, 1)) (by omega) (by omega) fun _ _ => sure_coin) hp (ds := [(1, 2, 1, 2), (0, 1, 0, 1)]) (fun d hd => by
    simp only [List.mem_cons, List.not_mem_nil, or_false] at hd
    rcases hd with rfl | rfl
    · exact ⟨half_die, half_die⟩
    · have z : Die 0 1 := ⟨by decide +kernel, by decide, by decide, sm60 (by decide) (by decide), small_one⟩
      exact ⟨z, z⟩) (by decide) S
  have l2 := v_led w (man_go (by omega) (by omega) g7) hp (ds := []) (fun d hd => by cases hd) (by decide) S
  refine q_ifF (x_bin (x_fn (y_cons (f := dVar 6) rfl (y_cons (f := dC (.str "coin")) rfl (y_cons (f := dVar 16) rfl (y_cons (f := dVar 10) rfl (y_cons rfl y_nil))))) rfl l1) (x_tup (y_cons (x_tup (y_cons (f := dVar 10) rfl y_nil) rfl) (y_cons rfl y_nil)) rfl) (oNe_of (eq_way _ _ S))) ?_
  refine q_ifF (x_bin (x_fnK (y_cons rfl (y_cons (f := dVar 10) rfl (y_cons (f := dVar 7) rfl (y_cons (f := dC (.str "go")) rfl (y_cons (f := dVar 6) rfl y_nil))))) ⟨rfl, rfl⟩ l2) (x_tup (y_cons (x_tup (y_cons (f := dVar 10) rfl y_nil) rfl) (y_cons rfl y_nil)) rfl) (oNe_of (eq_way _ _ S))) ?_
  have r1 := v_refusals w g7 g9 hp S
  have r2 := v_marks_refused w g7 g9 hp S
  exact q_ret (x_andT (x_f4 (f1 := dVar 6) (f2 := dVar 7) (f3 := dVar 9) (f4 := dVar 10) rfl rfl rfl rfl r1) (x_f4 (f1 := dVar 6) (f2 := dVar 7) (f3 := dVar 9) (f4 := dVar 10) rfl rfl rfl rfl r2))
end
end My
set_option Elab.async false
set_option linter.all false
set_option maxRecDepth 100000
set_option maxHeartbeats 0
namespace My
open PySem PySem.Spec PyProof.Rows L2 PD MyE
theorem facts {K : PySem.W.Frag} {h : Heap} {mg : Str → Option Value} (X : K.In h) (G : h.Ns mainGlobals mg) (c : SaysE fa fn fe K) : Facts K mg where
  g__law_share := He.glo_ok X G (c.d.fact 0 rfl)
  F__law_share := c.d.def_ 0 (d := dd "_law_share" 48) rfl
  g__law_dues := He.glo_ok X G (c.d.fact 1 rfl)
  F__law_dues := c.d.def_ 1 (d := dd "_law_dues" 49) rfl
  g__law_is_led := He.glo_ok X G (c.d.fact 2 rfl)
  F__law_is_led := c.d.def_ 2 (d := dd "_law_is_led" 50) rfl
  g__law_gcd := He.glo_ok X G (c.d.fact 3 rfl)
  F__law_gcd := c.d.def_ 3 (d := dd "_law_gcd" 43) rfl
  g__law_lowest := He.glo_ok X G (c.d.fact 4 rfl)
  F__law_lowest := c.d.def_ 4 (d := dd "_law_lowest" 44) rfl
  g_is_integer := He.glo_ok X G (c.d.fact 5 rfl)
  F_is_integer := c.d.def_ 5 (d := dd "is_integer" 2) rfl
  g_is_bottom := He.glo_ok X G (c.d.fact 6 rfl)
  F_is_bottom := c.d.def_ 6 (d := dd "is_bottom" 5) rfl
  g_is_pair := He.glo_ok X G (c.d.fact 7 rfl)
  F_is_pair := c.d.def_ 7 (d := dd "is_pair" 6) rfl
  g_is_quotient := He.glo_ok X G (c.d.fact 8 rfl)
  F_is_quotient := c.d.def_ 8 (d := dd "is_quotient" 7) rfl
  g_is_amount := He.glo_ok X G (c.d.fact 9 rfl)
  F_is_amount := c.d.def_ 9 (d := dd "is_amount" 8) rfl
  g_require := He.glo_ok X G (c.d.fact 10 rfl)
  F_require := c.d.def_ 10 (d := dd "require" 14) rfl
  g_require_quotients := He.glo_ok X G (c.d.fact 11 rfl)
  F_require_quotients := c.d.def_ 11 (d := dd "require_quotients" 19) rfl
  g_is_less := He.glo_ok X G (c.d.fact 12 rfl)
  F_is_less := c.d.def_ 12 (d := dd "is_less" 20) rfl
  g_is_die := He.glo_ok X G (c.d.fact 13 rfl)
  F_is_die := c.d.def_ 13 (d := dd "is_die" 29) rfl
  g_are_dice := He.glo_ok X G (c.d.fact 14 rfl)
  F_are_dice := c.d.def_ 14 (d := dd "are_dice" 38) rfl
  g_is_number := He.glo_ok X G (c.d.fact 15 rfl)
  F_is_number := c.d.def_ 15 (d := dd "is_number" 3) rfl
  g_is_brink := He.glo_ok X G (c.d.fact 16 rfl)
  F_is_brink := c.d.def_ 16 (d := dd "is_brink" 22) rfl
  g_are_brinks := He.glo_ok X G (c.d.fact 17 rfl)
  F_are_brinks := c.d.def_ 17 (d := dd "are_brinks" 23) rfl
  g_is_brinks := He.glo_ok X G (c.d.fact 18 rfl)
  F_is_brinks := c.d.def_ 18 (d := dd "is_brinks" 24) rfl
  g_are_coins := He.glo_ok X G (c.d.fact 19 rfl)
  F_are_coins := c.d.def_ 19 (d := dd "are_coins" 26) rfl
  g_is_coins := He.glo_ok X G (c.d.fact 20 rfl)
  F_is_coins := c.d.def_ 20 (d := dd "is_coins" 27) rfl
  g_next_by := He.glo_ok X G (c.d.fact 21 rfl)
  F_next_by := c.d.def_ 21 (d := dd "next_by" 36) rfl
  g_is_below := He.glo_ok X G (c.d.fact 22 rfl)
  F_is_below := c.d.def_ 22 (d := dd "is_below" 4) rfl
  g_size_of := He.glo_ok X G (c.d.fact 23 rfl)
  F_size_of := c.d.def_ 23 (d := dd "size_of" 15) rfl
  g_require_place := He.glo_ok X G (c.d.fact 24 rfl)
  F_require_place := c.d.def_ 24 (d := dd "require_place" 17) rfl
  g_require_die := He.glo_ok X G (c.d.fact 25 rfl)
  F_require_die := c.d.def_ 25 (d := dd "require_die" 30) rfl
  g_coin_word := He.glo_ok X G (c.d.fact 26 rfl)
  F_coin_word := c.d.def_ 26 (d := dd "coin_word" 35) rfl
  g_is_early := He.glo_ok X G (c.d.fact 27 rfl)
  F_is_early := c.d.def_ 27 (d := dd "is_early" 31) rfl
  g_require_number := He.glo_ok X G (c.d.fact 28 rfl)
  F_require_number := c.d.def_ 28 (d := dd "require_number" 16) rfl
  g_require_brink_word := He.glo_ok X G (c.d.fact 29 rfl)
  F_require_brink_word := c.d.def_ 29 (d := dd "require_brink_word" 32) rfl
  g_go_word := He.glo_ok X G (c.d.fact 30 rfl)
  F_go_word := c.d.def_ 30 (d := dd "go_word" 33) rfl
  g_stay_word := He.glo_ok X G (c.d.fact 31 rfl)
  F_stay_word := c.d.def_ 31 (d := dd "stay_word" 34) rfl
  g_word_by := He.glo_ok X G (c.d.fact 32 rfl)
  F_word_by := c.d.def_ 32 (d := dd "word_by" 39) rfl
  g_led := He.glo_ok X G (c.d.fact 33 rfl)
  F_led := c.d.def_ 33 (d := dd "led" 40) rfl
  g__law_all_dice := He.glo_ok X G (c.d.fact 34 rfl)
  F__law_all_dice := c.d.def_ 34 (d := dd "_law_all_dice" 51) rfl
  g__law_brinks := He.glo_ok X G (c.d.fact 35 rfl)
  F__law_brinks := c.d.def_ 35 (d := dd "_law_brinks" 46) rfl
  g__law_coins := He.glo_ok X G (c.d.fact 36 rfl)
  F__law_coins := c.d.def_ 36 (d := dd "_law_coins" 47) rfl
  g_arrow_by := He.glo_ok X G (c.d.fact 37 rfl)
  F_arrow_by := c.d.def_ 37 (d := dd "arrow_by" 37) rfl
  g__law_refused := He.glo_ok X G (c.d.fact 38 rfl)
  F__law_refused := c.d.def_ 38 (d := dd "_law_refused" 54) rfl
  g__law_marks_refused := He.glo_ok X G (c.d.fact 39 rfl)
  F__law_marks_refused := c.d.def_ 39 (d := dd "_law_marks_refused" 56) rfl
  g__law_numbers := He.glo_ok X G (c.d.fact 40 rfl)
  F__law_numbers := c.d.def_ 40 (d := dd "_law_numbers" 42) rfl
  g__law_refusals := He.glo_ok X G (c.d.fact 41 rfl)
  F__law_refusals := c.d.def_ 41 (d := dd "_law_refusals" 55) rfl
  g__law_web := He.glo_ok X G (c.d.fact 42 rfl)
  F__law_web := c.d.def_ 42 (d := dd "_law_web" 45) rfl
  g__law_below := He.glo_ok X G (c.d.fact 43 rfl)
  F__law_below := c.d.def_ 43 (d := dd "_law_below" 52) rfl
  g__law_words := He.glo_ok X G (c.d.fact 44 rfl)
  F__law_words := c.d.def_ 44 (d := dd "_law_words" 53) rfl
  g_law := He.glo_ok X G (c.d.fact 45 rfl)
  F_law := c.d.def_ 45 (d := dd "law" 57) rfl
  g_StayError := He.glo_ok X G (c.d.fact 46 rfl)
  g_WebError := He.glo_ok X G (c.d.fact 47 rfl)
  g_NotUsable := He.glo_ok X G (c.d.fact 48 rfl)
  n_all := He.free_ok X G (c.d.fact 49 rfl)
  n_bool := He.free_ok X G (c.d.fact 50 rfl)
  n_enumerate := He.free_ok X G (c.d.fact 51 rfl)
  n_int := He.free_ok X G (c.d.fact 52 rfl)
  n_isinstance := He.free_ok X G (c.d.fact 53 rfl)
  n_len := He.free_ok X G (c.d.fact 54 rfl)
  n_list := He.free_ok X G (c.d.fact 55 rfl)
  n_range := He.free_ok X G (c.d.fact 56 rfl)
  n_sum := He.free_ok X G (c.d.fact 57 rfl)
  n_tuple := He.free_ok X G (c.d.fact 58 rfl)
  k_gcd := PySem.W.mg_of X G (He.eqO_ok (c.err_at 0 rfl))
  x_NotUsable := ownErr_ok (He.glo_ok X G (c.d.fact 48 rfl)) (c.err_at 1 rfl)
  I_NotUsable := c.d.def_ 46 (d := ⟨("NotUsable", some "__init__"), "__init__", "NotUsable.__init__", defArgs (meth 12 0), defBody (meth 12 0), defScope (meth 12 0), [], []⟩) rfl
  no_NotUsable_word := He.eqO_ok (c.err_at 2 rfl)
  no_NotUsable_at := He.eqO_ok (c.err_at 3 rfl)
  ex_NotUsable_NotUsable := of_decide_eq_true (c.err_at 4 rfl)
theorem law_at (low : ∀ ns : List Int, ns.length ≤ 63 → (∀ z ∈ ns, Builtin.Int.intBits z ≤ 1048576) → O_law [.scr ns] [] = some (.ok (.bl true) [])) {w : World} {K : PySem.W.Frag} {h : Heap} {mg : Str → Option Value} {f : Addr} (X : K.In h) (G : h.Ns mainGlobals mg) (hfa : mg ("law" : Str) = some (.ref f)) (c : SaysE fa fn fe K) :
    LamX.LawAtS PySem.Challenge.rw_stayorgo_k45_all_dice_make_the_course w K (L2N.CX (PySem.Challenge.rw_stayorgo_k45_all_dice_make_the_course).prog w) 14 63 "_law_script" mg f h := by
  have fx := facts X G c
  have e := hfa.symm.trans fx.g_law
  cases e
  have cl := fun base : Heap => c_law (P := (PySem.Challenge.rw_stayorgo_k45_all_dice_make_the_course).prog) (w := w) (base := base) fx
  obtain ⟨fd, F⟩ := fx.F_law
  refine ⟨fd, [], spD K mg 1 O_law, by simp, by simp, by simp, fun s u => F.bindsA b_law s [u] rfl, fun H a ns hl hb _ hS => ?_, fun base _ _ _ => ?_⟩
  · refine ⟨rfl, [], [], [.scr ns], _, st_none, .single (.scr (hS.elim (fun z => .inl ⟨z, List.not_mem_nil⟩) .inr)), low ns hl hb, fun v H' _ _ _ r => ?_⟩
    cases r
    rfl
  · obtain ⟨fd', F', G'⟩ := (cl base).ex
    have : fd' = fd := funD_fd F' F
    subst this
    exact G'
end My
open PySem PySem.W PySem.Calls PyProof.Rows
theorem my_holds (low : ∀ ns : List Int, ns.length ≤ 63 → (∀ z ∈ ns, Builtin.Int.intBits z ≤ 1048576) → My.O_law [.scr ns] [] = some (.ok (.bl true) [])) : PySem.Challenge.rw_stayorgo_k45_all_dice_make_the_course.Holds := by
  w_on; o_law
  refine HeadRun.head_imp (r := OpenLaw.row PySem.Challenge.rw_stayorgo_k45_all_dice_make_the_course) (q := view (OpenLaw.row PySem.Challenge.rw_stayorgo_k45_all_dice_make_the_course).prog [0, 57]) (H := MyE.hk) (ob := MyE.ob) (M := 12000) (loose := MyE.nm) (d := HandSHeadRun.topDef (OpenLaw.row PySem.Challenge.rw_stayorgo_k45_all_dice_make_the_course).prog 57) (kwd := []) MyE.ob_eq
    MyE.run (by kernel_rfl) (by kernel_rfl) (by kernel_rfl) (by rfl) (by first | assumption | decide +kernel) (by decide +kernel) ⟨rfl, rfl, rfl, rfl, rfl, by decide +kernel⟩ ?hw ?hc
  case hw => w_witness2
  case hc =>
    refine LamX.walk_ofTsE (l := PySem.Challenge.rw_stayorgo_k45_all_dice_make_the_course) (n := 63) (k := 14) (x := "_law_script") (CX := fun w => L2N.CX (PySem.Challenge.rw_stayorgo_k45_all_dice_make_the_course).prog w) rfl (by decide) (by kernel_rfl) ⟨rfl, by decide, by decide⟩ ?F (fun _ _ _ _ _ ⟨_, _, _, _, _, _, _, _, _, _, _, _, z⟩ => z)
    intro w mg fa h Y G hmg0
    obtain ⟨K, KX, c⟩ := Y
    have hmg : mg ("law" : PySem.Str) = some (.ref fa) := by
      have e : (HandSHeadRun.topDef (OpenLaw.row PySem.Challenge.rw_stayorgo_k45_all_dice_make_the_course).prog 57).name = ("law" : PySem.Str) := by kernel_rfl
      rw [← e]
      exact hmg0
    exact ⟨K, KX, My.law_at low KX G hmg c⟩
open PySem PySem.W PyProof.Rows
set_option Elab.async false
set_option maxRecDepth 100000 in
set_option maxHeartbeats 0 in
theorem PySem.Challenge.cw_stayorgo_k45_all_dice_make_the_course_holds : PySem.Challenge.rw_stayorgo_k45_all_dice_make_the_course.Holds := by
  exact my_holds fun ns hn _ => My.law_ok [] ns hn
