import PyProof.Rows.All
import Wide.All
import OpenK.AllK
import Wide.FinOn
import HandS.ForMost
import HandS.ForExc
import HandS.TupAny
import HandS.Deep
import HandS.IsInst
import HandS.More
import HandS.Conv
import HandS.StrMore
import KE.KExcInit
import HandS.FStr
import HandS.Iter
import HandS.Zip
import KE.GoesEnum
import HandS.Call
import HandS.ExcIs
import HandS.ExcValue
import KE.KExcIs
import HandS.SortInts
import HandS.TupMul
import HandS.SetFor
import KE.DataFind
import PyProof.StrOps2
import HandS.Text
import KE.SortData
import KE.DataMinMax
import HandS.Dict
import HandS.TupLen
import HandS.DictTup
import KE.KDictItemsList
import KE.SortCalls
import PyProof.EqKinds
import KE.KDictSum
import HandS.DictComp
import HandS.Style
import HandS.TupSets
import PySem.Challenge.RW_pullsafe_k00_errors
set_option Elab.async false
set_option linter.all false
set_option maxRecDepth 100000
set_option maxHeartbeats 4000000
namespace Sh
open PySem PySem.Spec PyProof.Rows L2
/-- a value: tuples are trees, what may change stands in a cell -/
inductive W where
  | non | bl (b : Bool) | int (i : Int) | str (x : Str) | tup (xs : List W) | loc (n : Nat) | rol (xs : List W) | ty (n : String) | ob (a : Addr) | ex0 (C : Addr) | ex1 (C : Addr) (f : Str) (w : W)
inductive Cell where
  | lst (xs : List W)
  | dK (kvs : List (Key × W))
  | dT (kvs : List (List Key × W))
  | fT (kvs : List (List Key × W))
  | dL (kls : List (List Key × Nat × List W))
  | opq (n : Nat) (k : List Key)
abbrev Mem := List Cell
abbrev Locs := List Addr
structure Exc where
  cls : Addr
  fs : Option (List (Str × W))
/-- no text among the items: such a tuple is never a constant of the module -/
def isStrW : W → Bool | .str _ => true | _ => false
def noStrW (ws : List W) : Bool := !ws.any isStrW
/-- a list that nobody writes -/
def RoL (K : PySem.W.Frag) (H : Hp) (a : Addr) (vs : List V) : Prop := (∃ o, H a = some (.frz o (.lst vs))) ∨ ∀ H' : Hp, SqL K H' a vs
theorem RoL.sq {K : PySem.W.Frag} {H : Hp} {a : Addr} {vs : List V} (h : RoL K H a vs) : SqL K H a vs := by
  rcases h with ⟨o, h⟩ | h
  · exact .inl (.inr ⟨o, h⟩)
  · exact h H
/-- an own exception that is held: its class, its dict -/
def ExOb (oe : Obj) (C : Addr) (d : Option Addr) : Prop := oe.cls = .ref C ∧ oe.dict = d ∧ ∃ vs, oe.data = .fields vs
section
variable (K : PySem.W.Frag) (loc : Locs) (H : Hp)
mutual
inductive Rv : W → V → Prop
  | non : Rv .non .non
  | bl (b : Bool) : Rv (.bl b) (.bl b)
  | int (i : Int) : Rv (.int i) (.int i)
  | str (x : Str) : Rv (.str x) (.str x)
  | tup {ws : List W} {a : Addr} {vs : List V} : SqT K H a vs → Rvs ws vs → (noStrW ws = true → H a = some (.tup vs)) → Rv (.tup ws) (.ref a)
  | loc {n : Nat} {a : Addr} : loc[n]? = some a → Rv (.loc n) (.ref a)
  | ty (n : String) : Rv (.ty n) (.ty n)
  | ob (a : Addr) : Rv (.ob a) (.ref a)
  | ex0 {C a b : Addr} {oe : Obj} : H a = some (.frz oe (.own b)) → ExOb oe C none → Rv (.ex0 C) (.ref a)
  | ex1 {C a b dx : Addr} {f : Str} {w : W} {v : V} {oe od : Obj} : H a = some (.frz oe (.own b)) → ExOb oe C (some dx) → Rv w v → H dx = some (.frz od (.xd [(f, v)])) → Rv (.ex1 C f w) (.ref a)
  | rol {ws : List W} {a : Addr} {vs : List V} : RoL K H a vs → Rvs ws vs → Rv (.rol ws) (.ref a)
inductive Rvs : List W → List V → Prop
  | nil : Rvs [] []
  | cons {w : W} {v : V} {ws : List W} {vs : List V} : Rv w v → Rvs ws vs → Rvs (w :: ws) (v :: vs)
end
end
def kvW {κ : Type} (K : PySem.W.Frag) (loc : Locs) (H : Hp) : List (κ × W) → List (κ × V) → Prop := Paired fun p q => p.1 = q.1 ∧ Rv K loc H p.2 q.2
/-- lists of a dict's own: where each stands, and what it holds -/
def klW (K : PySem.W.Frag) (loc : Locs) (H : Hp) : List (List Key × Nat × List W) → List (List Key × V) → Prop :=
  Paired fun p q => p.1 = q.1 ∧ ∃ b us, loc[p.2.1]? = some b ∧ q.2 = .ref b ∧ H b = some (.lst us) ∧ Rvs K loc H p.2.2 us
/-- a cell at an address -/
def Rc (K : PySem.W.Frag) (loc : Locs) (H : Hp) (a : Addr) : Cell → Prop
  | .lst ws => ∃ vs, H a = some (.lst vs) ∧ Rvs K loc H ws vs
  | .dK kvs => ∃ vs, H a = some (.dK vs) ∧ kvW K loc H kvs vs
  | .dT kvs => ∃ vs, H a = some (.dT vs) ∧ kvW K loc H kvs vs
  | .fT kvs => ∃ vs, Rd H a (.dT vs) ∧ kvW K loc H kvs vs
  | .dL kls => ∃ vs, H a = some (.dT vs) ∧ klW K loc H kls vs
  | .opq _ _ => ∃ o, H a = some o
structure Rs (K : PySem.W.Frag) (mem : Mem) (loc : Locs) (H : Hp) : Prop where
  len : loc.length = mem.length
  nd : loc.Nodup
  cell : ∀ (i : Nat) (c : Cell), mem[i]? = some c → ∃ a, loc[i]? = some a ∧ Rc K loc H a c
  inn : ∀ (n : Nat) (kls : List (List Key × Nat × List W)), mem[n]? = some (.dL kls) → (kls.map (·.1)).Nodup ∧ ∀ x ∈ kls, mem[x.2.1]? = some (.opq n x.1)
/-- no dict with keys that are tuples -/
def notD (u : HO) : Prop := ∀ kvs, u ≠ .dT kvs
/-- what later heaps and places keep -/
structure Ext (loc : Locs) (H : Hp) (loc' : Locs) (H' : Hp) : Prop where
  pre : loc <+: loc'
  tup : ∀ a xs, H a = some (.tup xs) → H' a = some (.tup xs)
  frz : ∀ a o u, H a = some (.frz o u) → H' a = some (.frz o u)
theorem Ext.refl {loc : Locs} {H : Hp} : Ext loc H loc H := ⟨List.prefix_refl _, fun _ _ h => h, fun _ _ _ h => h⟩
theorem Ext.trans {l1 l2 l3 : Locs} {H1 H2 H3 : Hp} (a : Ext l1 H1 l2 H2) (b : Ext l2 H2 l3 H3) : Ext l1 H1 l3 H3 :=
  ⟨a.pre.trans b.pre, fun x xs h => b.tup x xs (a.tup x xs h), fun x o u h => b.frz x o u (a.frz x o u h)⟩
/-- what values need: a dict may be unlocked -/
structure ExtW (loc : Locs) (H : Hp) (loc' : Locs) (H' : Hp) : Prop where
  pre : loc <+: loc'
  tup : ∀ a xs, H a = some (.tup xs) → H' a = some (.tup xs)
  frz : ∀ a o u, notD u → H a = some (.frz o u) → H' a = some (.frz o u)
theorem Ext.w {loc : Locs} {H : Hp} {loc' : Locs} {H' : Hp} (e : Ext loc H loc' H') : ExtW loc H loc' H' := ⟨e.pre, e.tup, fun a o u _ h => e.frz a o u h⟩
section
variable {K : PySem.W.Frag} {loc loc' : Locs} {H H' : Hp}
theorem ExtW.sqT (e : ExtW loc H loc' H') {a : Addr} {xs : List V} (h : SqT K H a xs) : SqT K H' a xs := by
  rcases h with (h | ⟨o, h⟩) | h
  · exact .inl (.inl (e.tup _ _ h))
  · exact .inl (.inr ⟨o, e.frz _ _ _ (fun _ z => nomatch z) h⟩)
  · exact .inr h
theorem ExtW.rol (e : ExtW loc H loc' H') {a : Addr} {xs : List V} (h : RoL K H a xs) : RoL K H' a xs := by
  rcases h with ⟨o, h⟩ | h
  · exact .inl ⟨o, e.frz _ _ _ (fun _ z => nomatch z) h⟩
  · exact .inr h
theorem ExtW.at (e : ExtW loc H loc' H') {n : Nat} {a : Addr} (h : loc[n]? = some a) : loc'[n]? = some a := by
  obtain ⟨t, rfl⟩ := e.pre
  rw [List.getElem?_append_left]
  · exact h
  · exact (List.getElem?_eq_some_iff.mp h).1
theorem Ext.sqT (e : Ext loc H loc' H') {a : Addr} {xs : List V} (h : SqT K H a xs) : SqT K H' a xs := e.w.sqT h
theorem Ext.rol (e : Ext loc H loc' H') {a : Addr} {xs : List V} (h : RoL K H a xs) : RoL K H' a xs := e.w.rol h
theorem Ext.at (e : Ext loc H loc' H') {n : Nat} {a : Addr} (h : loc[n]? = some a) : loc'[n]? = some a := e.w.at h
mutual
theorem Rv.monoW (e : ExtW loc H loc' H') : ∀ {w : W} {v : V}, Rv K loc H w v → Rv K loc' H' w v
  | _, _, .non => .non
  | _, _, .bl b => .bl b
  | _, _, .int i => .int i
  | _, _, .str x => .str x
  | _, _, .tup h r z => .tup (e.sqT h) (Rvs.monoW e r) fun q => e.tup _ _ (z q)
  | _, _, .loc h => .loc (e.at h)
  | _, _, .rol h r => .rol (e.rol h) (Rvs.monoW e r)
  | _, _, .ty n => .ty n
  | _, _, .ob a => .ob a
  | _, _, .ex0 h o => .ex0 (e.frz _ _ _ (fun _ z => by cases z) h) o
  | _, _, .ex1 h o r k => .ex1 (e.frz _ _ _ (fun _ z => by cases z) h) o (Rv.monoW e r) (e.frz _ _ _ (fun _ z => by cases z) k)
theorem Rvs.monoW (e : ExtW loc H loc' H') : ∀ {ws : List W} {vs : List V}, Rvs K loc H ws vs → Rvs K loc' H' ws vs
  | _, _, .nil => .nil
  | _, _, .cons r t => .cons (Rv.monoW e r) (Rvs.monoW e t)
end
theorem Rv.mono (e : Ext loc H loc' H') {w : W} {v : V} (h : Rv K loc H w v) : Rv K loc' H' w v := h.monoW e.w
theorem Rvs.mono (e : Ext loc H loc' H') {ws : List W} {vs : List V} (h : Rvs K loc H ws vs) : Rvs K loc' H' ws vs := h.monoW e.w
theorem Paired.imp2 {α β : Type} {F G : α → β → Prop} (h : ∀ a b, F a b → G a b) : ∀ {l₁ : List α} {l₂ : List β}, Paired F l₁ l₂ → Paired G l₁ l₂
  | _, _, .nil => .nil
  | _, _, .cons r t => .cons (h _ _ r) (Paired.imp2 h t)
theorem kvW.monoW {κ : Type} (e : ExtW loc H loc' H') {xs : List (κ × W)} {ys : List (κ × V)} (h : kvW K loc H xs ys) : kvW K loc' H' xs ys :=
  Paired.imp2 (fun _ _ r => ⟨r.1, Rv.monoW e r.2⟩) h
theorem kvW.mono {κ : Type} (e : Ext loc H loc' H') {xs : List (κ × W)} {ys : List (κ × V)} (h : kvW K loc H xs ys) : kvW K loc' H' xs ys :=
  Paired.imp2 (fun _ _ r => ⟨r.1, Rv.mono e r.2⟩) h
theorem Rvs.length : ∀ {ws : List W} {vs : List V}, Rvs K loc H ws vs → ws.length = vs.length
  | _, _, .nil => rfl
  | _, _, .cons _ t => congrArg Nat.succ (Rvs.length t)
theorem Rvs.get : ∀ {ws : List W} {vs : List V} {i : Nat} {w : W}, Rvs K loc H ws vs → ws[i]? = some w → ∃ v, vs[i]? = some v ∧ Rv K loc H w v
  | _, _, 0, _, .cons r _, e => ⟨_, rfl, by cases e; exact r⟩
  | _, _, i + 1, _, .cons _ t, e => Rvs.get (i := i) t e
theorem Rvs.append : ∀ {ws ws' : List W} {vs vs' : List V}, Rvs K loc H ws vs → Rvs K loc H ws' vs' → Rvs K loc H (ws ++ ws') (vs ++ vs')
  | _, _, _, _, .nil, s => s
  | _, _, _, _, .cons r t, s => .cons r (Rvs.append t s)
theorem Rvs.drop : ∀ {ws : List W} {vs : List V} (n : Nat), Rvs K loc H ws vs → Rvs K loc H (ws.drop n) (vs.drop n)
  | _, _, 0, r => r
  | _, _, _ + 1, .nil => .nil
  | _, _, n + 1, .cons _ t => Rvs.drop n t
theorem Rvs.take : ∀ {ws : List W} {vs : List V} (n : Nat), Rvs K loc H ws vs → Rvs K loc H (ws.take n) (vs.take n)
  | _, _, 0, _ => .nil
  | _, _, _ + 1, .nil => .nil
  | _, _, n + 1, .cons r t => .cons r (Rvs.take n t)
theorem Rvs.set {w : W} {v : V} (q : Rv K loc H w v) : ∀ {ws : List W} {vs : List V} (n : Nat), Rvs K loc H ws vs → Rvs K loc H (ws.set n w) (vs.set n v)
  | _, _, _, .nil => .nil
  | _, _, 0, .cons _ t => .cons q t
  | _, _, n + 1, .cons r t => .cons r (Rvs.set q n t)
end
section
variable {K : PySem.W.Frag} {loc : Locs} {H : Hp} {mem : Mem}
def MutO : HO → Prop
  | .lst _ => True | .dK _ => True | .dT _ => True | _ => False
theorem Ext.wr {a : Addr} {o u : HO} (h : H a = some o) (m : MutO o) : Ext loc H loc (upd H a u) :=
  ⟨List.prefix_refl _, fun b xs e => by
    rw [upd_ne (ne_of e h (by rintro rfl; exact m))]; exact e, fun b ob w e => by
    rw [upd_ne (ne_of e h (by rintro rfl; exact m))]; exact e⟩
theorem Ext.new {p : Addr} {o : HO} (h : H p = none) : Ext loc H loc (upd H p o) :=
  ⟨List.prefix_refl _, fun b xs e => by rw [upd_ne (ne_of_none e h)]; exact e, fun b ob w e => by rw [upd_ne (ne_of_none e h)]; exact e⟩
theorem Rs.lt (r : Rs K mem loc H) {i : Nat} {c : Cell} (h : mem[i]? = some c) : i < loc.length := by
  rw [r.len]; exact (List.getElem?_eq_some_iff.mp h).1
theorem Rs.ne (r : Rs K mem loc H) {i j : Nat} {a b : Addr} (hi : loc[i]? = some a) (hj : loc[j]? = some b) (h : i ≠ j) : a ≠ b := fun e => by
  subst e
  obtain ⟨h1, e1⟩ := List.getElem?_eq_some_iff.mp hi
  obtain ⟨h2, e2⟩ := List.getElem?_eq_some_iff.mp hj
  exact h ((List.getElem_inj r.nd).mp (e1.trans e2.symm))
theorem klW.keep {b : Addr} {u : HO} (e : ExtW loc H loc (upd H b u)) : ∀ {kls : List (List Key × Nat × List W)} {vs : List (List Key × V)}, klW K loc H kls vs → (∀ x ∈ kls, loc[x.2.1]? ≠ some b) → klW K loc (upd H b u) kls vs
  | _, _, .nil, _ => .nil
  | x :: kls, q :: vs, .cons r t, h => by
    obtain ⟨h1, c, us, h2, h3, h4, h5⟩ := r
    refine .cons ⟨h1, c, us, h2, h3, ?_, h5.monoW e⟩ (klW.keep e t fun y hy => h y (List.mem_cons_of_mem _ hy))
    rw [upd_ne (fun z => h x List.mem_cons_self (by rw [h2, z]))]
    exact h4
theorem klW.at {kls : List (List Key × Nat × List W)} {vs : List (List Key × V)} (r : klW K loc H kls vs) {x : List Key × Nat × List W} (hx : x ∈ kls) : ∃ b us, loc[x.2.1]? = some b ∧ (x.1, V.ref b) ∈ vs ∧ H b = some (.lst us) ∧ Rvs K loc H x.2.2 us := by
  unfold klW at r
  induction r with
  | nil => cases hx
  | @cons p q ps qs r t ih =>
    rcases List.mem_cons.mp hx with rfl | hx
    · obtain ⟨h1, c, us, h2, h3, h4, h5⟩ := r
      refine ⟨c, us, h2, ?_, h4, h5⟩
      rw [h1, ← h3]
      exact List.mem_cons_self
    · obtain ⟨b, us, h1, h2, h3⟩ := ih hx
      exact ⟨b, us, h1, List.mem_cons_of_mem _ h2, h3⟩
/-- a cell as it stands is kept by a change elsewhere -/
theorem Rc.keepW {a b : Addr} {c : Cell} {u : HO} (e : ExtW loc H loc (upd H b u)) (n : a ≠ b) (nL : ∀ kls, c = .dL kls → ∀ x ∈ kls, loc[x.2.1]? ≠ some b) (h : Rc K loc H a c) : Rc K loc (upd H b u) a c := by
  cases c with
  | lst ws => obtain ⟨vs, h1, h2⟩ := h; exact ⟨vs, by rw [upd_ne n]; exact h1, h2.monoW e⟩
  | dK kvs => obtain ⟨vs, h1, h2⟩ := h; exact ⟨vs, by rw [upd_ne n]; exact h1, h2.monoW e⟩
  | dT kvs => obtain ⟨vs, h1, h2⟩ := h; exact ⟨vs, by rw [upd_ne n]; exact h1, h2.monoW e⟩
  | fT kvs => obtain ⟨vs, h1, h2⟩ := h; exact ⟨vs, by unfold Rd; rw [upd_ne n]; exact h1, h2.monoW e⟩
  | dL kls => obtain ⟨vs, h1, h2⟩ := h; exact ⟨vs, by rw [upd_ne n]; exact h1, h2.keep e (nL _ rfl)⟩
  | opq m k => obtain ⟨o, h1⟩ := h; exact ⟨o, by rw [upd_ne n]; exact h1⟩
theorem Rc.keep {a b : Addr} {c : Cell} {u : HO} (e : Ext loc H loc (upd H b u)) (n : a ≠ b) (nL : ∀ kls, c = .dL kls → ∀ x ∈ kls, loc[x.2.1]? ≠ some b) (h : Rc K loc H a c) : Rc K loc (upd H b u) a c := h.keepW e.w n nL
/-- .. by a new object -/
theorem Rc.grow {a p : Addr} {c : Cell} {u : HO} (hp : H p = none) (h : Rc K loc H a c) : Rc K loc (upd H p u) a c := by
  have e : Ext loc H loc (upd H p u) := Ext.new hp
  cases c with
  | lst ws => obtain ⟨vs, h1, h2⟩ := h; exact ⟨vs, by rw [upd_ne (ne_of_none h1 hp)]; exact h1, h2.mono e⟩
  | dK kvs => obtain ⟨vs, h1, h2⟩ := h; exact ⟨vs, by rw [upd_ne (ne_of_none h1 hp)]; exact h1, h2.mono e⟩
  | dT kvs => obtain ⟨vs, h1, h2⟩ := h; exact ⟨vs, by rw [upd_ne (ne_of_none h1 hp)]; exact h1, h2.mono e⟩
  | fT kvs =>
    obtain ⟨vs, h1, h2⟩ := h
    refine ⟨vs, ?_, h2.mono e⟩
    unfold Rd at h1 ⊢
    rcases h1 with h1 | ⟨o, h1⟩
    · exact .inl (by rw [upd_ne (ne_of_none h1 hp)]; exact h1)
    · exact .inr ⟨o, by rw [upd_ne (ne_of_none h1 hp)]; exact h1⟩
  | dL kls =>
    obtain ⟨vs, h1, h2⟩ := h
    refine ⟨vs, by rw [upd_ne (ne_of_none h1 hp)]; exact h1, h2.keep e.w fun x hx z => ?_⟩
    obtain ⟨b, us, g1, _, g2, _⟩ := h2.at hx
    rw [z] at g1
    cases g1
    rw [hp] at g2
    cases g2
  | opq m k => obtain ⟨o, h1⟩ := h; exact ⟨o, by rw [upd_ne (ne_of_none h1 hp)]; exact h1⟩
theorem Rs.grow (r : Rs K mem loc H) {p : Addr} {u : HO} (hp : H p = none) : Rs K mem loc (upd H p u) :=
  ⟨r.len, r.nd, fun i c hi => let ⟨a, h1, h2⟩ := r.cell i c hi; ⟨a, h1, h2.grow hp⟩, r.inn⟩
/-- where a dict's own lists stand, no other thing does -/
theorem Rs.apart (r : Rs K mem loc H) {i j : Nat} {a : Addr} {c : Cell} (hi : loc[i]? = some a) (hq : ∀ n k, mem[i]? ≠ some (.opq n k)) (hj : mem[j]? = some c) : ∀ kls, c = .dL kls → ∀ x ∈ kls, loc[x.2.1]? ≠ some a := fun kls e x hx z => by
  subst e
  have := (r.inn j kls hj).2 x hx
  have hxi : x.2.1 = i := Classical.byContradiction fun y => r.ne z hi y rfl
  rw [hxi] at this
  exact hq _ _ this
/-- write a cell -/
theorem Rs.write (r : Rs K mem loc H) {i : Nat} {a : Addr} {o u : HO} {c : Cell} (hi : loc[i]? = some a) (ho : H a = some o) (m : MutO o)
    (hc : Rc K loc (upd H a u) a c) (hq : ∀ n k, mem[i]? ≠ some (.opq n k)) (hL : ∀ kls, c ≠ .dL kls := by intro _ h; cases h) : Rs K (mem.set i c) loc (upd H a u) := by
  have e : Ext loc H loc (upd H a u) := Ext.wr ho m
  refine ⟨by rw [List.length_set]; exact r.len, r.nd, fun j d hj => ?_, fun n kls hn => ?_⟩
  · by_cases hij : i = j
    · subst hij
      have hl : i < mem.length := by rw [← r.len]; exact (List.getElem?_eq_some_iff.mp hi).1
      rw [List.getElem?_set_self hl] at hj
      cases hj
      exact ⟨a, hi, hc⟩
    · rw [List.getElem?_set_ne hij] at hj
      obtain ⟨b, hb, hr⟩ := r.cell j d hj
      exact ⟨b, hb, hr.keep e (r.ne hb hi (fun z => hij z.symm)) (r.apart hi hq hj)⟩
  · by_cases hin : i = n
    · subst hin
      have hl : i < mem.length := by rw [← r.len]; exact (List.getElem?_eq_some_iff.mp hi).1
      rw [List.getElem?_set_self hl] at hn
      exact absurd (Option.some.inj hn) (hL kls)
    · rw [List.getElem?_set_ne hin] at hn
      obtain ⟨h1, h2⟩ := r.inn n kls hn
      refine ⟨h1, fun x hx => ?_⟩
      have h3 := h2 x hx
      rw [List.getElem?_set_ne (fun z => hq _ _ (z ▸ h3))]
      exact h3
/-- places stand for objects that are there -/
theorem Rs.notin (r : Rs K mem loc H) {p : Addr} (hp : H p = none) : p ∉ loc := fun hm => by
  obtain ⟨i, hi, e⟩ := List.getElem_of_mem hm
  have hl : i < mem.length := by rw [← r.len]; exact hi
  obtain ⟨a, h1, h2⟩ := r.cell i mem[i] (List.getElem?_eq_getElem hl)
  rw [List.getElem?_eq_getElem hi, e] at h1
  cases h1
  revert h2
  cases mem[i] with
  | lst ws => rintro ⟨vs, h1, _⟩; rw [hp] at h1; cases h1
  | dK ws => rintro ⟨vs, h1, _⟩; rw [hp] at h1; cases h1
  | dT ws => rintro ⟨vs, h1, _⟩; rw [hp] at h1; cases h1
  | fT ws =>
    rintro ⟨vs, h1, _⟩
    rcases h1 with h1 | ⟨o, h1⟩
    · rw [hp] at h1; cases h1
    · rw [hp] at h1; cases h1
  | dL kls => rintro ⟨vs, h1, _⟩; rw [hp] at h1; cases h1
  | opq m k => rintro ⟨o, h1⟩; rw [hp] at h1; cases h1
/-- a new cell -/
theorem Ext.alloc {p : Addr} {o : HO} (hp : H p = none) : Ext loc H (loc ++ [p]) (upd H p o) :=
  ⟨List.prefix_append _ _, (Ext.new (loc := loc) hp).tup, (Ext.new (loc := loc) hp).frz⟩
theorem Ext.at' {l2 : Locs} (e : Ext loc H l2 H) {n : Nat} {a : Addr} (h : loc[n]? = some a) : l2[n]? = some a := by
  obtain ⟨t, rfl⟩ := e.pre
  rw [List.getElem?_append_left (List.getElem?_eq_some_iff.mp h).1]
  exact h
theorem Rc.more {a : Addr} {c : Cell} {l2 : Locs} (e : Ext loc H l2 H) (h : Rc K loc H a c) : Rc K l2 H a c := by
  cases c with
  | lst ws => obtain ⟨vs, h1, h2⟩ := h; exact ⟨vs, h1, h2.mono e⟩
  | dK kvs => obtain ⟨vs, h1, h2⟩ := h; exact ⟨vs, h1, h2.mono e⟩
  | dT kvs => obtain ⟨vs, h1, h2⟩ := h; exact ⟨vs, h1, h2.mono e⟩
  | fT kvs => obtain ⟨vs, h1, h2⟩ := h; exact ⟨vs, h1, h2.mono e⟩
  | dL kls =>
    obtain ⟨vs, h1, h2⟩ := h
    refine ⟨vs, h1, ?_⟩
    exact Paired.imp2 (fun _ _ ⟨g1, b, us, g2, g3, g4, g5⟩ => ⟨g1, b, us, e.at' g2, g3, g4, g5.mono e⟩) h2
  | opq m k => exact h
theorem Rs.alloc (r : Rs K mem loc H) {p : Addr} {o : HO} {c : Cell} (hp : H p = none) (hc : Rc K (loc ++ [p]) (upd H p o) p c) (hL : ∀ kls, c = .dL kls → kls = [] := by intro _ h; first | (cases h; rfl) | cases h) : Rs K (mem ++ [c]) (loc ++ [p]) (upd H p o) := by
  refine ⟨by rw [List.length_append, List.length_append, r.len]; rfl, ?_, fun i d hi => ?_, fun n kls hn => ?_⟩
  · rw [List.nodup_append]
    refine ⟨r.nd, by simp, fun a ha b hb => ?_⟩
    have e : b = p := by simpa using hb
    rw [e]
    exact fun z => r.notin hp (z ▸ ha)
  · by_cases hl : i < mem.length
    · rw [List.getElem?_append_left hl] at hi
      obtain ⟨a, h1, h2⟩ := r.cell i d hi
      refine ⟨a, by rw [List.getElem?_append_left (by rw [r.len]; exact hl)]; exact h1, (h2.grow hp).more ⟨List.prefix_append _ _, fun _ _ h => h, fun _ _ _ h => h⟩⟩
    · have hi' : i = mem.length := by
        have := (List.getElem?_eq_some_iff.mp hi).1
        rw [List.length_append, List.length_singleton] at this
        omega
      subst hi'
      rw [List.getElem?_append_right (Nat.le_refl _), Nat.sub_self] at hi
      cases hi
      exact ⟨p, by rw [List.getElem?_append_right (by rw [r.len]; exact Nat.le_refl _), r.len, Nat.sub_self]; rfl, hc⟩
  · by_cases hl : n < mem.length
    · rw [List.getElem?_append_left hl] at hn
      obtain ⟨h1, h2⟩ := r.inn n kls hn
      exact ⟨h1, fun x hx => by rw [List.getElem?_append_left (List.getElem?_eq_some_iff.mp (h2 x hx)).1]; exact h2 x hx⟩
    · have hn' : n = mem.length := by
        have := (List.getElem?_eq_some_iff.mp hn).1
        rw [List.length_append, List.length_singleton] at this
        omega
      subst hn'
      rw [List.getElem?_append_right (Nat.le_refl _), Nat.sub_self] at hn
      have := hL kls (Option.some.inj hn)
      subst this
      exact ⟨List.nodup_nil, fun x hx => by cases hx⟩
end
end Sh
set_option linter.all false
set_option maxRecDepth 100000
set_option maxHeartbeats 4000000
namespace Sh
open PySem PySem.Spec PyProof.Rows L2
inductive Res (α : Type) where
  | ok (a : α) (m : Mem) | exc (x : Exc) (m : Mem) | bad
abbrev SM (α : Type) := Mem → Res α
def SM.pure {α : Type} (a : α) : SM α := fun m => .ok a m
def SM.bind {α β : Type} (x : SM α) (f : α → SM β) : SM β := fun m =>
  match x m with
  | .ok a m' => f a m'
  | .exc e m' => .exc e m'
  | .bad => .bad
abbrev VEnv := List (Option W)
abbrev EM := VEnv → SM W
abbrev BM := VEnv → SM Bool
abbrev AM := VEnv → SM (List W)
/-- an operation on values: none where it isn't known -/
abbrev Op1 := W → Mem → Option (W × Mem)
abbrev Op2 := W → W → Mem → Option (W × Mem)
abbrev OpN := List W → Mem → Option (W × Mem)
def lift {α : Type} (o : Option (α × Mem)) : Res α := match o with | some (a, m) => .ok a m | none => .bad
def Res.Post {α : Type} (r : Res α) (ok : α → Mem → Prop) (ex : Exc → Mem → Prop) : Prop :=
  match r with
  | .ok a m => ok a m
  | .exc x m => ex x m
  | .bad => False
theorem Res.Post.imp {α : Type} {r : Res α} {ok ok' : α → Mem → Prop} {ex ex' : Exc → Mem → Prop} (h : r.Post ok ex) (h1 : ∀ a m, ok a m → ok' a m) (h2 : ∀ x m, ex x m → ex' x m) : r.Post ok' ex' := by
  cases r with
  | ok a m => exact h1 _ _ h
  | exc x m => exact h2 _ _ h
  | bad => exact h
theorem post_bind {α β : Type} {x : SM α} {f : α → SM β} {m : Mem} {ok : β → Mem → Prop} {ex : Exc → Mem → Prop} (h : (SM.bind x f m).Post ok ex) : (x m).Post (fun a m' => (f a m').Post ok ex) ex := by
  unfold SM.bind at h
  cases e : x m with
  | ok a m' => rw [e] at h; exact h
  | exc x m' => rw [e] at h; exact h
  | bad => rw [e] at h; exact h
theorem post_lift {α : Type} {o : Option (α × Mem)} {ok : α → Mem → Prop} {ex : Exc → Mem → Prop} (h : (lift o).Post ok ex) : ∃ a m, o = some (a, m) ∧ ok a m := by
  cases o with
  | none => exact h.elim
  | some p => exact ⟨p.1, p.2, rfl, h⟩
structure REnv (K : PySem.W.Frag) (loc : Locs) (H : Hp) (env : VEnv) (σ : L2.St) : Prop where
  len : env.length = σ.length
  get : ∀ (i : Nat) (w : W), env[i]? = some (some w) → ∃ v, σ[i]? = some (some v) ∧ Rv K loc H w v
def Rx (K : PySem.W.Frag) (loc : Locs) (H : Hp) (x : Exc) (cls : Value) (d : Option Addr) : Prop :=
  cls = .ref x.cls ∧ match x.fs with
    | none => d = none
    | some fs => ∃ dx vs, d = some dx ∧ H dx = some (.xd vs) ∧ kvW K loc H fs vs
section
variable {K : PySem.W.Frag} {loc loc' : Locs} {H H' : Hp} {env : VEnv} {σ : L2.St}
theorem REnv.mono (r : REnv K loc H env σ) (e : Ext loc H loc' H') : REnv K loc' H' env σ :=
  ⟨r.len, fun i w h => let ⟨v, h1, h2⟩ := r.get i w h; ⟨v, h1, h2.mono e⟩⟩
theorem REnv.set (r : REnv K loc H env σ) {w : W} {v : V} (q : Rv K loc H w v) (i : Nat) : REnv K loc H (env.set i (some w)) (σ.set i (some v)) := by
  refine ⟨by rw [List.length_set, List.length_set]; exact r.len, fun j u h => ?_⟩
  by_cases hij : i = j
  · subst hij
    by_cases hl : i < env.length
    · rw [List.getElem?_set_self hl] at h
      cases h
      exact ⟨v, by rw [List.getElem?_set_self (by rw [← r.len]; exact hl)], q⟩
    · rw [List.getElem?_eq_none (by rw [List.length_set]; omega)] at h
      cases h
  · rw [List.getElem?_set_ne hij] at h ⊢
    exact r.get j u h
theorem REnv.unset (r : REnv K loc H env σ) (i : Nat) : REnv K loc H (env.set i none) (σ.set i none) := by
  refine ⟨by rw [List.length_set, List.length_set]; exact r.len, fun j u h => ?_⟩
  by_cases hij : i = j
  · subst hij
    by_cases hl : i < env.length
    · rw [List.getElem?_set_self hl] at h
      cases h
    · rw [List.getElem?_eq_none (by rw [List.length_set]; omega)] at h
      cases h
  · rw [List.getElem?_set_ne hij] at h ⊢
    exact r.get j u h
end
section
variable (K : PySem.W.Frag) (W' : WX)
/-- what is wanted behind a value w with the store mem' -/
def okQ (loc : Locs) (H : Hp) (Q : VK) (w : W) (mem' : Mem) : Prop := ∀ v H' loc', Ext loc H loc' H' → Rs K mem' loc' H' → Rv K loc' H' w v → Q v H'
def okB (loc : Locs) (H : Hp) (Q : Bool → Hp → Prop) (b : Bool) (mem' : Mem) : Prop := ∀ H' loc', Ext loc H loc' H' → Rs K mem' loc' H' → Q b H'
def okA (loc : Locs) (H : Hp) (Q : List V → Hp → Prop) (ws : List W) (mem' : Mem) : Prop := ∀ vs H' loc', Ext loc H loc' H' → Rs K mem' loc' H' → Rvs K loc' H' ws vs → Q vs H'
def exQ (σ : L2.St) (loc : Locs) (H : Hp) (x : Exc) (mem' : Mem) : Prop := ∀ cls d H' loc', Ext loc H loc' H' → Rs K mem' loc' H' → Rx K loc' H' x cls d → W' cls d σ H'
def denE (m : EM) : TE := fun σ H Q => ∃ env mem loc, REnv K loc H env σ ∧ Rs K mem loc H ∧ (m env mem).Post (okQ K loc H Q) (exQ K W' σ loc H)
def denB (m : BM) : TT := fun σ H Q => ∃ env mem loc, REnv K loc H env σ ∧ Rs K mem loc H ∧ (m env mem).Post (okB K loc H Q) (exQ K W' σ loc H)
def denA (m : AM) : TA := fun σ H Q => ∃ env mem loc, REnv K loc H env σ ∧ Rs K mem loc H ∧ (m env mem).Post (okA K loc H Q) (exQ K W' σ loc H)
end
section
variable {K : PySem.W.Frag} {W' : WX} {loc loc' : Locs} {H H' : Hp} {σ : L2.St} {Q : VK} {x : Exc} {mem' : Mem}
theorem exQ.mono (e : Ext loc H loc' H') (h : exQ K W' σ loc H x mem') : exQ K W' σ loc' H' x mem' := fun cls d H2 l2 e2 => h cls d H2 l2 (e.trans e2)
theorem okQ.mono {w : W} (e : Ext loc H loc' H') (h : okQ K loc H Q w mem') : okQ K loc' H' Q w mem' := fun v H2 l2 e2 => h v H2 l2 (e.trans e2)
theorem okB.mono {w : Bool} {Q : Bool → Hp → Prop} (e : Ext loc H loc' H') (h : okB K loc H Q w mem') : okB K loc' H' Q w mem' := fun H2 l2 e2 => h H2 l2 (e.trans e2)
theorem okA.mono {w : List W} {Q : List V → Hp → Prop} (e : Ext loc H loc' H') (h : okA K loc H Q w mem') : okA K loc' H' Q w mem' := fun v H2 l2 e2 => h v H2 l2 (e.trans e2)
end
/-- the judgements -/
def SE (X : Cx) (W' : WX) (e : Expr) (m : EM) : Prop := PE X e (denE X.K W' m)
def SB (X : Cx) (W' : WX) (e : Expr) (m : BM) : Prop := PT X e (denB X.K W' m)
def SW (X : Cx) (W' : WX) (e : Expr) (m : BM) : Prop := PW X e (denB X.K W' m)
def SA (X : Cx) (W' : WX) (es : List Expr) (m : AM) : Prop := PA X es (denA X.K W' m)
section
variable {X : Cx} {e : Expr}
theorem pe_imp {t t' : TE} (h : PE X e t) (i : ∀ σ H Q, t' σ H Q → t σ H Q) : PE X e t' := ⟨fun pins s σ H Q I q => h.run pins s σ H Q I (i σ H Q q)⟩
theorem pt_imp {t t' : TT} (h : PT X e t) (i : ∀ σ H Q, t' σ H Q → t σ H Q) : PT X e t' := ⟨fun pins s σ H Q I q => h.run pins s σ H Q I (i σ H Q q)⟩
theorem pw_imp {t t' : TT} (h : PW X e t) (i : ∀ σ H Q, t' σ H Q → t σ H Q) : PW X e t' := ⟨fun wh pins s σ H Q I q => h.run wh pins s σ H Q I (i σ H Q q)⟩
theorem pa_imp {es : List Expr} {t t' : TA} (h : PA X es t) (i : ∀ σ H Q, t' σ H Q → t σ H Q) : PA X es t' := ⟨fun p pins s σ H Q I q => h.run p pins s σ H Q I (i σ H Q q)⟩
theorem ps_imp {s : Stmt} {t t' : TS} (h : PS X s t) (i : ∀ D σ H, t' D σ H → t D σ H) : PS X s t' := ⟨fun pins s σ H D I q => h.run pins s σ H D I (i D σ H q)⟩
theorem pss_imp {s : List Stmt} {t t' : TS} (h : PSs X s t) (i : ∀ D σ H, t' D σ H → t D σ H) : PSs X s t' := ⟨fun pins s σ H D I q => h.run pins s σ H D I (i D σ H q)⟩
end
section
variable {K : PySem.W.Frag} {W' : WX} {σ : L2.St} {H : Hp}
theorem denE_then {β : Type} {ma : EM} {k : VEnv → W → SM β} {env : VEnv} {mem : Mem} {loc : Locs} {ok : β → Mem → Prop} {Q : VK}
    (re : REnv K loc H env σ) (rs : Rs K mem loc H) (h : (SM.bind (ma env) (k env) mem).Post ok (exQ K W' σ loc H))
    (hk : ∀ w mem1 v H1 loc1, Ext loc H loc1 H1 → Rs K mem1 loc1 H1 → Rv K loc1 H1 w v → REnv K loc1 H1 env σ → (k env w mem1).Post ok (exQ K W' σ loc1 H1) → Q v H1) : denE K W' ma σ H Q :=
  ⟨env, mem, loc, re, rs, (post_bind h).imp (fun w mem1 hp v H1 loc1 e r q => hk w mem1 v H1 loc1 e r q (re.mono e) (hp.imp (fun _ _ z => z) fun _ _ z => z.mono e)) fun _ _ z => z⟩
theorem denB_then {β : Type} {ma : BM} {k : VEnv → Bool → SM β} {env : VEnv} {mem : Mem} {loc : Locs} {ok : β → Mem → Prop} {Q : Bool → Hp → Prop}
    (re : REnv K loc H env σ) (rs : Rs K mem loc H) (h : (SM.bind (ma env) (k env) mem).Post ok (exQ K W' σ loc H))
    (hk : ∀ b mem1 H1 loc1, Ext loc H loc1 H1 → Rs K mem1 loc1 H1 → REnv K loc1 H1 env σ → (k env b mem1).Post ok (exQ K W' σ loc1 H1) → Q b H1) : denB K W' ma σ H Q :=
  ⟨env, mem, loc, re, rs, (post_bind h).imp (fun w mem1 hp H1 loc1 e r => hk w mem1 H1 loc1 e r (re.mono e) (hp.imp (fun _ _ z => z) fun _ _ z => z.mono e)) fun _ _ z => z⟩
theorem denA_then {β : Type} {ma : AM} {k : VEnv → List W → SM β} {env : VEnv} {mem : Mem} {loc : Locs} {ok : β → Mem → Prop} {Q : List V → Hp → Prop}
    (re : REnv K loc H env σ) (rs : Rs K mem loc H) (h : (SM.bind (ma env) (k env) mem).Post ok (exQ K W' σ loc H))
    (hk : ∀ ws mem1 vs H1 loc1, Ext loc H loc1 H1 → Rs K mem1 loc1 H1 → Rvs K loc1 H1 ws vs → REnv K loc1 H1 env σ → (k env ws mem1).Post ok (exQ K W' σ loc1 H1) → Q vs H1) : denA K W' ma σ H Q :=
  ⟨env, mem, loc, re, rs, (post_bind h).imp (fun w mem1 hp v H1 loc1 e r q => hk w mem1 v H1 loc1 e r q (re.mono e) (hp.imp (fun _ _ z => z) fun _ _ z => z.mono e)) fun _ _ z => z⟩
end
def varE (i : Nat) : EM := fun env mem => match env[i]? with
  | some (some w) => .ok w mem
  | _ => .bad
def cE (w : W) : EM := fun _ mem => .ok w mem
def flatW : W → V
  | .non => .non | .bl b => .bl b | .int i => .int i | .str x => .str x | _ => .non
def isFlat : W → Bool
  | .non => true | .bl _ => true | .int _ => true | .str _ => true | _ => false
theorem rv_flat {K : PySem.W.Frag} {loc : Locs} {H : Hp} {w : W} (h : isFlat w = true) : Rv K loc H w (flatW w) := by
  cases w with
  | non => exact .non
  | bl b => exact .bl b
  | int i => exact .int i
  | str x => exact .str x
  | _ => cases h
section
variable {X : Cx} {W' : WX} {pos : Pos}
theorem se_v (i : Nat) {x : Str} (hN : X.N[i]? = some x := by rfl) (hv : Vis X.env.scope x := by first | exact Or.inl rfl | exact Or.inr (Or.inl rfl) | exact Or.inr (Or.inr rfl)) (hd : (x == ("__debug__" : Str)) = false := by decide)
    (hcd : (x == ("__classdict__" : Str)) = false := by decide) : SE X W' (.Name x pos) (varE i) := by
  refine pe_imp (pv i hN hv hd hcd) fun σ H Q h => ?_
  obtain ⟨env, mem, loc, re, rs, h⟩ := h
  unfold varE at h
  split at h
  · rename_i w hw
    obtain ⟨v, h1, h2⟩ := re.get i w hw
    exact ⟨v, h1, h v H loc Ext.refl rs h2⟩
  · exact h.elim
theorem se_const {v : V} (w : W) (hp : PE X e (tC v)) (hr : ∀ loc H, Rv X.K loc H w v) : SE X W' e (cE w) :=
  pe_imp hp fun σ H Q ⟨env, mem, loc, re, rs, h⟩ => h v H loc Ext.refl rs (hr _ _)
theorem se_int {i : Int} {j} : SE X W' (.Constant (.int i) j pos) (cE (.int i)) := se_const _ pe_int fun _ _ => .int i
theorem se_bl {b j} : SE X W' (.Constant (.bool b) j pos) (cE (.bl b)) := se_const _ pe_bl fun _ _ => .bl b
theorem se_non {j} : SE X W' (.Constant .none j pos) (cE .non) := se_const _ pe_non fun _ _ => .non
theorem se_str {x j} : SE X W' (.Constant (.str x) j pos) (cE (.str x)) := se_const _ pe_str fun _ _ => .str x
end
def bin (f : Op2) (ma mb : EM) : EM := fun env => SM.bind (ma env) fun x => SM.bind (mb env) fun y => fun m => lift (f x y m)
def un (f : Op1) (ma : EM) : EM := fun env => SM.bind (ma env) fun x => fun m => lift (f x m)
def opP (K : PySem.W.Frag) (f : Op2) : R2 := fun x y H Q => ∃ wx wy mem loc, Rs K mem loc H ∧ Rv K loc H wx x ∧ Rv K loc H wy y ∧ ∃ w mem', f wx wy mem = some (w, mem') ∧ okQ K loc H Q w mem'
def unP (K : PySem.W.Frag) (f : Op1) : V → Hp → VK → Prop := fun x H Q => ∃ wx mem loc, Rs K mem loc H ∧ Rv K loc H wx x ∧ ∃ w mem', f wx mem = some (w, mem') ∧ okQ K loc H Q w mem'
def caP (K : PySem.W.Frag) (f : OpN) : List V → Hp → VK → Prop := fun xs H Q => ∃ ws mem loc, Rs K mem loc H ∧ Rvs K loc H ws xs ∧ ∃ w mem', f ws mem = some (w, mem') ∧ okQ K loc H Q w mem'
section
variable {K : PySem.W.Frag} {W' : WX} {σ : L2.St} {H : Hp} {Q : VK} {ma mb : EM}
theorem den_bin {f : Op2} (h : denE K W' (bin f ma mb) σ H Q) : denE K W' ma σ H fun x H1 => denE K W' mb σ H1 fun y H2 => opP K f x y H2 Q := by
  obtain ⟨env, mem, loc, re, rs, h⟩ := h
  refine denE_then (k := fun env x => SM.bind (mb env) fun y => fun m => lift (f x y m)) re rs h fun x mem1 v H1 loc1 e1 rs1 rv1 re1 h1 => ?_
  refine denE_then (k := fun env y => fun m => lift (f x y m)) re1 rs1 h1 fun y mem2 v2 H2 loc2 e2 rs2 rv2 re2 h2 => ?_
  obtain ⟨w, mem', e, q⟩ := post_lift h2
  exact ⟨x, y, mem2, loc2, rs2, rv1.mono e2, rv2, w, mem', e, q.mono (e1.trans e2)⟩
theorem den_un {f : Op1} (h : denE K W' (un f ma) σ H Q) : denE K W' ma σ H fun x H1 => unP K f x H1 Q := by
  obtain ⟨env, mem, loc, re, rs, h⟩ := h
  refine denE_then (k := fun env x => fun m => lift (f x m)) re rs h fun x mem1 v H1 loc1 e1 rs1 rv1 re1 h1 => ?_
  obtain ⟨w, mem', e, q⟩ := post_lift h1
  exact ⟨x, mem1, loc1, rs1, rv1, w, mem', e, q.mono e1⟩
/-- the answer is flat and the store stays: the heap may stay, too -/
theorem okQ.flat {loc : Locs} {mem : Mem} {w : W} (q : okQ K loc H Q w mem) (rs : Rs K mem loc H) (h : isFlat w = true) : Q (flatW w) H := q _ H loc Ext.refl rs (rv_flat h)
end
section
variable {X : Cx} {W' : WX} {pos : Pos} {a b c : Expr} {ma mb mc : EM} {es : List Expr} {as : AM}
theorem se_bin {op : Operator} {f : Op2} (ho : OpR X (binaryOp op) (opP X.K f)) (ha : SE X W' a ma) (hb : SE X W' b mb) : SE X W' (.BinOp a op b pos) (bin f ma mb) := pe_imp (pe_op ho ha hb) fun _ _ _ => den_bin
theorem se_un {op : UnaryOp} {f : Op1} (ho : UnR X (unaryOp op) (unP X.K f)) (ha : SE X W' a ma) : SE X W' (.UnaryOp op a pos) (un f ma) := pe_imp (pe_un ho ha) fun _ _ _ => den_un
theorem se_cmp {op : CmpOp} {f : Op2} (ho : OpR X (compareOp op) (opP X.K f)) (ha : SE X W' a ma) (hb : SE X W' b mb) (hm : behindInMarks op b = false) : SE X W' (.Compare a [op] [b] pos) (bin f ma mb) := pe_imp (pe_cmpR ho ha hb hm) fun _ _ _ => den_bin
theorem se_ix {f : Op2} (ho : IxR X (opP X.K f)) (ha : SE X W' a ma) (hb : SE X W' b mb) (hs : PlainIx b := by intro _ _; rfl) : SE X W' (.Subscript a b pos) (bin f ma mb) := pe_imp (pe_ix ho ha hb hs) fun _ _ _ => den_bin
/-- a value that is a bool, as a test -/
def tB (m : EM) : BM := fun env => SM.bind (m env) fun w => fun mem => match w with
  | .bl b => .ok b mem
  | _ => .bad
theorem den_tB {K : PySem.W.Frag} {σ : L2.St} {H : Hp} {Q : Bool → Hp → Prop} {m : EM} (h : denB K W' (tB m) σ H Q) : denE K W' m σ H fun x H' => ∃ k, x = .bl k ∧ Q k H' := by
  obtain ⟨env, mem, loc, re, rs, h⟩ := h
  refine denE_then (k := fun env w => fun mem => match w with | .bl b => .ok b mem | _ => .bad) re rs h fun w mem1 v H1 loc1 e1 rs1 rv1 re1 h1 => ?_
  cases w with
  | bl b => cases rv1; exact ⟨b, rfl, h1 H1 loc1 e1 rs1⟩
  | _ => exact h1.elim
theorem sb_cmp {op : CmpOp} {f : Op2} (ho : OpR X (compareOp op) (opP X.K f)) (ha : SE X W' a ma) (hb : SE X W' b mb) (hm : behindInMarks op b = false) : SB X W' (.Compare a [op] [b] pos) (tB (bin f ma mb)) := by
  refine pt_imp (pt_cmpR ho ha hb hm) fun σ H Q h => ?_
  obtain ⟨env, mem, loc, re, rs, h⟩ := h
  have h' := den_tB ⟨env, mem, loc, re, rs, h⟩
  exact den_bin h'
theorem sb_e {m : EM} (ha : SE X W' a m) (he : ∀ whole, isTrue a X.env whole = (do let v ← whole; standAt a.pos; holding [v] (truthy v)) := by intro _; rfl) : SB X W' a (tB m) :=
  pt_imp (pt_val ha he) fun _ _ _ h => den_tB h
def andB (a b : BM) : BM := fun env => SM.bind (a env) fun x => if x = true then b env else SM.pure false
def orB (a b : BM) : BM := fun env => SM.bind (a env) fun x => if x = true then SM.pure true else b env
def notB (a : BM) : BM := fun env => SM.bind (a env) fun x => SM.pure (!x)
variable {ba bb : BM} {rest : List Expr}
theorem sw_or1 (ha : SB X W' a ba) : SW X W' (.BoolOp .Or [a] pos) ba := pw_or1 ha
theorem sw_or (ha : SB X W' a ba) (hb : SW X W' (.BoolOp .Or (b :: rest) pos) bb) : SW X W' (.BoolOp .Or (a :: b :: rest) pos) (orB ba bb) := by
  refine pw_imp (pw_or ha hb) fun σ H Q h => ?_
  obtain ⟨env, mem, loc, re, rs, h⟩ := h
  refine denB_then (k := fun env x => if x = true then SM.pure true else bb env) re rs h fun x mem1 H1 loc1 e1 rs1 re1 h1 => ?_
  cases x with
  | false => exact ⟨env, mem1, loc1, re1, rs1, h1.imp (fun _ _ z => z.mono e1) fun _ _ z => z⟩
  | true => exact h1 H1 loc1 e1 rs1
theorem sb_w (h : SW X W' a ba) : SB X W' a ba := PW.pt h
theorem sb_not (ha : SB X W' a ba) : SB X W' (.UnaryOp .Not a pos) (notB ba) := by
  refine pt_imp (pt_not ha) fun σ H Q h => ?_
  obtain ⟨env, mem, loc, re, rs, h⟩ := h
  exact denB_then (k := fun env x => SM.pure (!x)) re rs h fun x mem1 H1 loc1 e1 rs1 re1 h1 => h1 H1 loc1 e1 rs1
def boolE (f : W → Option Bool) (m : EM) (yes no : EM) : EM := fun env => SM.bind (m env) fun w => match f w with
  | some true => yes env
  | some false => no env
  | none => fun _ => .bad
def isB : W → Option Bool
  | .bl b => some b
  | _ => none
def andV (a b : EM) : EM := boolE isB a b (cE (.bl false))
def orV (a b : EM) : EM := boolE isB a (cE (.bl true)) b
def notV (a : EM) : EM := boolE isB a (cE (.bl false)) (cE (.bl true))
theorem se_one {op} {m : EM} (h : SE X W' a m) : SE X W' (.BoolOp op [a] pos) m := pe_one h
theorem se_and (ha : SE X W' a ma) (hb : SE X W' (.BoolOp .And (b :: rest) pos) mb) : SE X W' (.BoolOp .And (a :: b :: rest) pos) (andV ma mb) := by
  refine pe_imp (pe_and ha hb) fun σ H Q h => ?_
  obtain ⟨env, mem, loc, re, rs, h⟩ := h
  refine denE_then (k := fun env w => match isB w with | some true => mb env | some false => cE (.bl false) env | none => fun _ => .bad) re rs h fun x mem1 v H1 loc1 e1 rs1 rv1 re1 h1 => ?_
  cases x with
  | bl c =>
    cases rv1
    refine ⟨c, rfl, ?_⟩
    cases c with
    | true => exact ⟨env, mem1, loc1, re1, rs1, h1.imp (fun _ _ z => z.mono e1) fun _ _ z => z⟩
    | false => exact h1 _ H1 loc1 e1 rs1 (.bl false)
  | _ => exact h1.elim
theorem se_or (ha : SE X W' a ma) (hb : SE X W' (.BoolOp .Or (b :: rest) pos) mb) : SE X W' (.BoolOp .Or (a :: b :: rest) pos) (orV ma mb) := by
  refine pe_imp (pe_or ha hb) fun σ H Q h => ?_
  obtain ⟨env, mem, loc, re, rs, h⟩ := h
  refine denE_then (k := fun env w => match isB w with | some true => cE (.bl true) env | some false => mb env | none => fun _ => .bad) re rs h fun x mem1 v H1 loc1 e1 rs1 rv1 re1 h1 => ?_
  cases x with
  | bl c =>
    cases rv1
    refine ⟨c, rfl, ?_⟩
    cases c with
    | false => exact ⟨env, mem1, loc1, re1, rs1, h1.imp (fun _ _ z => z.mono e1) fun _ _ z => z⟩
    | true => exact h1 _ H1 loc1 e1 rs1 (.bl true)
  | _ => exact h1.elim
theorem se_not (ha : SE X W' a ma) : SE X W' (.UnaryOp .Not a pos) (notV ma) := by
  refine pe_imp (pe_not ha) fun σ H Q h => ?_
  obtain ⟨env, mem, loc, re, rs, h⟩ := h
  refine denE_then (k := fun env w => match isB w with | some true => cE (.bl false) env | some false => cE (.bl true) env | none => fun _ => .bad) re rs h fun x mem1 v H1 loc1 e1 rs1 rv1 re1 h1 => ?_
  cases x with
  | bl c =>
    cases rv1
    refine ⟨c, rfl, ?_⟩
    cases c with
    | true => exact h1 _ H1 loc1 e1 rs1 (.bl _)
    | false => exact h1 _ H1 loc1 e1 rs1 (.bl _)
  | _ => exact h1.elim
def ifE (t : BM) (a b : EM) : EM := fun env => SM.bind (t env) fun x => if x = true then a env else b env
def nilA : AM := fun _ => SM.pure []
def consA (a : EM) (r : AM) : AM := fun env => SM.bind (a env) fun x => SM.bind (r env) fun xs => SM.pure (x :: xs)
theorem sa_nil : SA X W' [] nilA := pa_imp pa_nil fun σ H Q ⟨env, mem, loc, re, rs, h⟩ => h [] H loc Ext.refl rs .nil
theorem sa_cons (ha : SE X W' a ma) (hr : SA X W' es as) (hs : starEach (a :: es) X.env = (false, eval a X.env) :: starEach es X.env := by rfl) : SA X W' (a :: es) (consA ma as) := by
  refine pa_imp (pa_cons ha hr hs) fun σ H Q h => ?_
  obtain ⟨env, mem, loc, re, rs, h⟩ := h
  refine denE_then (k := fun env x => SM.bind (as env) fun xs => SM.pure (x :: xs)) re rs h fun x mem1 v H1 loc1 e1 rs1 rv1 re1 h1 => ?_
  refine denA_then (k := fun env xs => SM.pure (x :: xs)) re1 rs1 h1 fun xs mem2 vs H2 loc2 e2 rs2 rv2 re2 h2 => ?_
  exact h2 _ H2 loc2 (e1.trans e2) rs2 (.cons (rv1.mono e2) rv2)
def tupE (t : AM) : EM := fun env => SM.bind (t env) fun xs => fun m => if xs.length ≤ sizeLine then .ok (W.tup xs) m else .bad
def lstE (t : AM) : EM := fun env => SM.bind (t env) fun xs => fun m => if xs.length ≤ sizeLine then .ok (W.loc m.length) (m ++ [Cell.lst xs]) else .bad
theorem se_tup {x1} (h : SA X W' es as) : SE X W' (.Tuple es x1 pos) (tupE as) := by
  refine pe_imp (pe_tup h) fun σ H Q h => ?_
  obtain ⟨env, mem, loc, re, rs, h⟩ := h
  refine denA_then (k := fun env xs => fun m => if xs.length ≤ sizeLine then .ok (W.tup xs) m else .bad) re rs h fun xs mem1 vs H1 loc1 e1 rs1 rv1 re1 h1 => ?_
  by_cases hz : xs.length ≤ sizeLine
  · rw [if_pos hz] at h1
    refine ⟨by rw [← rv1.length]; exact hz, fun p hp => ?_⟩
    exact h1 _ _ loc1 (e1.trans (Ext.new hp)) (rs1.grow hp) (.tup (SqT.of upd_same) (rv1.mono (Ext.new hp)) fun _ => upd_same)
  · rw [if_neg hz] at h1
    exact h1.elim
theorem rs_newlist {K : PySem.W.Frag} {mem : Mem} {loc : Locs} {H : Hp} {p : Addr} {ws : List W} {vs : List V} (rs : Rs K mem loc H) (rv : Rvs K loc H ws vs) (hp : H p = none) :
    Rs K (mem ++ [.lst ws]) (loc ++ [p]) (upd H p (.lst vs)) ∧ Rv K (loc ++ [p]) (upd H p (.lst vs)) (.loc mem.length) (.ref p) :=
  ⟨rs.alloc hp ⟨vs, upd_same, rv.mono (Ext.alloc hp)⟩, .loc (by rw [← rs.len, List.getElem?_append_right (Nat.le_refl _), Nat.sub_self]; rfl)⟩
theorem se_lst (h : SA X W' es as) : SE X W' (.List es pos) (lstE as) := by
  refine pe_imp (pe_lst h) fun σ H Q h => ?_
  obtain ⟨env, mem, loc, re, rs, h⟩ := h
  refine denA_then (k := fun env xs => fun m => if xs.length ≤ sizeLine then .ok (W.loc m.length) (m ++ [Cell.lst xs]) else .bad) re rs h fun xs mem1 vs H1 loc1 e1 rs1 rv1 re1 h1 => ?_
  by_cases hz : xs.length ≤ sizeLine
  · rw [if_pos hz] at h1
    refine ⟨by rw [← rv1.length]; exact hz, fun p hp => ?_⟩
    obtain ⟨r1, r2⟩ := rs_newlist rs1 rv1 hp
    exact h1 _ _ (loc1 ++ [p]) (e1.trans (Ext.alloc hp)) r1 r2
  · rw [if_neg hz] at h1
    exact h1.elim
def callN (f : OpN) (as : AM) : EM := fun env => SM.bind (as env) fun xs => fun m => lift (f xs m)
theorem den_callN {K : PySem.W.Frag} {σ : L2.St} {H : Hp} {Q : VK} {f : OpN} {as : AM} (h : denE K W' (callN f as) σ H Q) : denA K W' as σ H fun xs H1 => caP K f xs H1 Q := by
  obtain ⟨env, mem, loc, re, rs, h⟩ := h
  refine denA_then (k := fun env xs => fun m => lift (f xs m)) re rs h fun xs mem1 vs H1 loc1 e1 rs1 rv1 re1 h1 => ?_
  obtain ⟨w, mem', e, q⟩ := post_lift h1
  exact ⟨xs, mem1, loc1, rs1, rv1, w, mem', e, q.mono e1⟩
variable {x : Str} {id T : String} {p : Pos}
theorem se_callB {f : OpN} (hc : CallR X (.builtin id) (caP X.K f)) (hg : Gl X x) (hm : X.mg x = none) (hv : bootBuiltins x = some (.builtin id)) (ha : SA X W' (a :: es) as) (hn : x ≠ "__name__" := by decide) (hdb : (x == ("__debug__" : Str)) = false := by decide)
    (he : starEach (a :: es) X.env = (false, eval a X.env) :: starEach es X.env := by rfl) (hpl : (backTo pos (starEach es X.env)).any (·.1) = false := by rfl) : SE X W' (.Call (.Name x p) (a :: es) [] pos) (callN f as) :=
  pe_imp (pe_callB hc hg hm hv ha hn hdb he hpl) fun _ _ _ h => den_callN h
theorem se_callTy {f : OpN} (hc : CallR X (.type T) (caP X.K f)) (hg : Gl X x) (hm : X.mg x = none) (hv : bootBuiltins x = some (.type T)) (ha : SA X W' (a :: es) as) (hn : x ≠ "__name__" := by decide) (hdb : (x == ("__debug__" : Str)) = false := by decide)
    (he : starEach (a :: es) X.env = (false, eval a X.env) :: starEach es X.env := by rfl) (hpl : (backTo pos (starEach es X.env)).any (·.1) = false := by rfl) : SE X W' (.Call (.Name x p) (a :: es) [] pos) (callN f as) :=
  pe_imp (pe_callTy hc hg hm hv ha hn hdb he hpl) fun _ _ _ h => den_callN h
end
end Sh
set_option linter.all false
set_option maxRecDepth 100000
set_option maxHeartbeats 4000000
namespace Sh
open PySem PySem.Spec PyProof.Rows L2
inductive SRes where
  | nx (e : VEnv) (m : Mem) | rt (w : W) (m : Mem) | bk (e : VEnv) (m : Mem) | ct (e : VEnv) (m : Mem) | exc (x : Exc) (e : VEnv) (m : Mem) | bad
abbrev SS := VEnv → Mem → SRes
structure SQ where
  nx : VEnv → Mem → Prop
  rt : W → Mem → Prop
  bk : VEnv → Mem → Prop
  ct : VEnv → Mem → Prop
  ex : Exc → VEnv → Mem → Prop
def SRes.Post (r : SRes) (q : SQ) : Prop :=
  match r with
  | .nx e m => q.nx e m
  | .rt w m => q.rt w m
  | .bk e m => q.bk e m
  | .ct e m => q.ct e m
  | .exc x e m => q.ex x e m
  | .bad => False
theorem SRes.Post.imp {r : SRes} {q q' : SQ} (h : r.Post q) (h1 : ∀ e m, q.nx e m → q'.nx e m) (h2 : ∀ e m, q.rt e m → q'.rt e m) (h3 : ∀ e m, q.bk e m → q'.bk e m) (h4 : ∀ e m, q.ct e m → q'.ct e m) (h5 : ∀ x e m, q.ex x e m → q'.ex x e m) : r.Post q' := by
  cases r with
  | nx e m => exact h1 _ _ h
  | rt e m => exact h2 _ _ h
  | bk e m => exact h3 _ _ h
  | ct e m => exact h4 _ _ h
  | exc x e m => exact h5 _ _ _ h
  | bad => exact h
section
variable (K : PySem.W.Frag) (W' : WX)
def stQ (loc : Locs) (H : Hp) (N : L2.St → Hp → Prop) (env' : VEnv) (mem' : Mem) : Prop := ∀ σ' H' loc', Ext loc H loc' H' → Rs K mem' loc' H' → REnv K loc' H' env' σ' → N σ' H'
def exS (loc : Locs) (H : Hp) (x : Exc) (env' : VEnv) (mem' : Mem) : Prop := ∀ cls d σ' H' loc', Ext loc H loc' H' → Rs K mem' loc' H' → Rx K loc' H' x cls d → REnv K loc' H' env' σ' → W' cls d σ' H'
def stD (loc : Locs) (H : Hp) (D : Ends) : SQ := ⟨stQ K loc H D.nx, okQ K loc H D.rt, stQ K loc H D.bk, stQ K loc H D.ct, exS K W' loc H⟩
def denS (s : SS) : TS := fun D σ H => ∃ env mem loc, REnv K loc H env σ ∧ Rs K mem loc H ∧ (s env mem).Post (stD K W' loc H D)
end
section
variable {K : PySem.W.Frag} {W' : WX} {loc loc' : Locs} {H H' : Hp} {σ : L2.St} {D D' : Ends}
theorem stQ.mono {N : L2.St → Hp → Prop} {env : VEnv} {mem : Mem} (e : Ext loc H loc' H') (h : stQ K loc H N env mem) : stQ K loc' H' N env mem := fun σ2 H2 l2 e2 => h σ2 H2 l2 (e.trans e2)
theorem exS.mono {x : Exc} {env : VEnv} {mem : Mem} (e : Ext loc H loc' H') (h : exS K W' loc H x env mem) : exS K W' loc' H' x env mem := fun c d σ2 H2 l2 e2 => h c d σ2 H2 l2 (e.trans e2)
theorem stD.mono {r : SRes} (e : Ext loc H loc' H') (h : r.Post (stD K W' loc H D)) : r.Post (stD K W' loc' H' D) :=
  h.imp (fun _ _ z => stQ.mono e z) (fun _ _ z => okQ.mono e z) (fun _ _ z => stQ.mono e z) (fun _ _ z => stQ.mono e z) fun _ _ _ z => exS.mono e z
theorem exQ_of {x : Exc} {env : VEnv} {mem : Mem} (re : REnv K loc H env σ) (h : exS K W' loc H x env mem) : exQ K W' σ loc H x mem := fun c d H2 l2 e2 r rx => h c d σ H2 l2 e2 r rx (re.mono e2)
end
def SSt (X : Cx) (W' : WX) (st : Stmt) (s : SS) : Prop := PS X st (denS X.K W' s)
def SBl (X : Cx) (W' : WX) (st : List Stmt) (s : SS) : Prop := PSs X st (denS X.K W' s)
/-- an expression, then what is done with its value -/
def ofE {α : Type} (m : VEnv → SM α) (k : α → SS) : SS := fun env mem => match m env mem with
  | .ok w m' => k w env m'
  | .exc x m' => .exc x env m'
  | .bad => .bad
def seqS (s t : SS) : SS := fun env mem => match s env mem with
  | .nx e m => t e m
  | .rt w m => .rt w m
  | .bk e m => .bk e m
  | .ct e m => .ct e m
  | .exc x e m => .exc x e m
  | .bad => .bad
def nextS : SS := fun env mem => .nx env mem
def brkS : SS := fun env mem => .bk env mem
def ctS : SS := fun env mem => .ct env mem
def retS (m : EM) : SS := ofE m fun w _ mem => .rt w mem
def retNS : SS := fun _ mem => .rt .non mem
def dropS (m : EM) : SS := ofE m fun _ env mem => .nx env mem
def setS (i : Nat) (m : EM) : SS := ofE m fun w env mem => .nx (env.set i (some w)) mem
def ifS (b : BM) (s t : SS) : SS := ofE b fun c => if c = true then s else t
section
variable {K : PySem.W.Frag} {W' : WX} {σ : L2.St} {H : Hp} {D : Ends}
theorem ofE_post {α : Type} {m : VEnv → SM α} {k : α → SS} {env : VEnv} {mem : Mem} {q : SQ} (h : (ofE m k env mem).Post q) : (m env mem).Post (fun w m' => (k w env m').Post q) (fun x m' => q.ex x env m') := by
  unfold ofE at h
  cases e : m env mem with
  | ok a m' => rw [e] at h; exact h
  | exc x m' => rw [e] at h; exact h
  | bad => rw [e] at h; exact h
theorem denE_of {m : EM} {k : W → SS} {env : VEnv} {mem : Mem} {loc : Locs} {Q : VK} (re : REnv K loc H env σ) (rs : Rs K mem loc H) (h : (ofE m k env mem).Post (stD K W' loc H D))
    (hk : ∀ w mem1 v H1 loc1, Ext loc H loc1 H1 → Rs K mem1 loc1 H1 → Rv K loc1 H1 w v → REnv K loc1 H1 env σ → (k w env mem1).Post (stD K W' loc1 H1 D) → Q v H1) : denE K W' m σ H Q :=
  ⟨env, mem, loc, re, rs, (ofE_post h).imp (fun w mem1 hp v H1 loc1 e r q => hk w mem1 v H1 loc1 e r q (re.mono e) (stD.mono e hp)) fun _ _ z => exQ_of re z⟩
theorem denB_of {m : BM} {k : Bool → SS} {env : VEnv} {mem : Mem} {loc : Locs} {Q : Bool → Hp → Prop} (re : REnv K loc H env σ) (rs : Rs K mem loc H) (h : (ofE m k env mem).Post (stD K W' loc H D))
    (hk : ∀ w mem1 H1 loc1, Ext loc H loc1 H1 → Rs K mem1 loc1 H1 → REnv K loc1 H1 env σ → (k w env mem1).Post (stD K W' loc1 H1 D) → Q w H1) : denB K W' m σ H Q :=
  ⟨env, mem, loc, re, rs, (ofE_post h).imp (fun w mem1 hp H1 loc1 e r => hk w mem1 H1 loc1 e r (re.mono e) (stD.mono e hp)) fun _ _ z => exQ_of re z⟩
theorem denA_of {m : AM} {k : List W → SS} {env : VEnv} {mem : Mem} {loc : Locs} {Q : List V → Hp → Prop} (re : REnv K loc H env σ) (rs : Rs K mem loc H) (h : (ofE m k env mem).Post (stD K W' loc H D))
    (hk : ∀ w mem1 v H1 loc1, Ext loc H loc1 H1 → Rs K mem1 loc1 H1 → Rvs K loc1 H1 w v → REnv K loc1 H1 env σ → (k w env mem1).Post (stD K W' loc1 H1 D) → Q v H1) : denA K W' m σ H Q :=
  ⟨env, mem, loc, re, rs, (ofE_post h).imp (fun w mem1 hp v H1 loc1 e r q => hk w mem1 v H1 loc1 e r q (re.mono e) (stD.mono e hp)) fun _ _ z => exQ_of re z⟩
theorem den_seq {s t : SS} (h : denS K W' (seqS s t) D σ H) : tSeq (denS K W' s) (denS K W' t) D σ H := by
  obtain ⟨env, mem, loc, re, rs, h⟩ := h
  refine ⟨env, mem, loc, re, rs, ?_⟩
  unfold seqS at h
  cases e : s env mem with
  | nx e1 m1 =>
    rw [e] at h
    exact fun σ' H' loc' x r q => ⟨e1, m1, loc', q, r, stD.mono x h⟩
  | rt w m => rw [e] at h; exact h
  | bk w m => rw [e] at h; exact h
  | ct w m => rw [e] at h; exact h
  | exc x w m => rw [e] at h; exact h
  | bad => rw [e] at h; exact h
end
section
variable {X : Cx} {W' : WX} {st : Stmt} {rest : List Stmt} {s t : SS} {e : Expr} {m : EM} {b : BM} {pos : Pos}
theorem sl_nil : SBl X W' [] nextS := pss_imp pss_nil fun D σ H ⟨env, mem, loc, re, rs, h⟩ => h σ H loc Ext.refl rs re
theorem sl_cons (h1 : SSt X W' st s) (h2 : SBl X W' rest t) : SBl X W' (st :: rest) (seqS s t) := pss_imp (pss_cons h1 h2) fun _ _ _ => den_seq
theorem sl_one (h1 : SSt X W' st s) : SBl X W' [st] s := pss_one h1
theorem ss_break : SSt X W' (.Break pos) brkS := ps_imp ps_break fun D σ H ⟨env, mem, loc, re, rs, h⟩ => h σ H loc Ext.refl rs re
theorem ss_expr (he : SE X W' e m) (hs : swapsWith e none pos.line X.env = pure false := by rfl) : SSt X W' (.Expr e pos) (dropS m) := by
  refine ps_imp (ps_expr he hs) fun D σ H ⟨env, mem, loc, re, rs, h⟩ => ?_
  exact denE_of re rs h fun w mem1 v H1 loc1 e1 rs1 rv1 re1 h1 => h1 σ H1 loc1 Ext.refl rs1 re1
theorem ss_ret (he : SE X W' e m) : SSt X W' (.Return (some e) pos) (retS m) := by
  refine ps_imp (ps_ret he) fun D σ H ⟨env, mem, loc, re, rs, h⟩ => ?_
  exact denE_of re rs h fun w mem1 v H1 loc1 e1 rs1 rv1 re1 h1 => h1 v H1 loc1 Ext.refl rs1 rv1
theorem ss_if {c : Expr} {a d : List Stmt} (hc : SB X W' c b) (ha : SBl X W' a s) (hb : SBl X W' d t) : SSt X W' (.If c a d pos) (ifS b s t) := by
  refine ps_imp (ps_if hc ha hb) fun D σ H ⟨env, mem, loc, re, rs, h⟩ => ?_
  refine denB_of re rs h fun w mem1 H1 loc1 e1 rs1 re1 h1 => ?_
  cases w with
  | true => exact ⟨env, mem1, loc1, re1, rs1, h1⟩
  | false => exact ⟨env, mem1, loc1, re1, rs1, h1⟩
theorem ss_set {i : Nat} {x : Str} {pos' : Pos} (hN : X.N.Nodup) (hi : X.N[i]? = some x) (hx : Loc X.env.scope x) (he : SE X W' e m) (hs : swapsWith e (some (.Name x pos')) pos.line X.env = pure false := by rfl) (hf : X.fn x = true ∨ X.env.scope.names.lookup x = some .local := by first | exact .inl rfl | exact .inr rfl | assumption) :
    SSt X W' (.Assign [.Name x pos'] e pos) (setS i m) := by
  refine ps_imp (ps_set hN hi hx he hs hf) fun D σ H ⟨env, mem, loc, re, rs, h⟩ => ?_
  exact denE_of re rs h fun w mem1 v H1 loc1 e1 rs1 rv1 re1 h1 => h1 _ H1 loc1 Ext.refl rs1 (re1.set rv1 i)
end
abbrev GM := W → VEnv → SM VEnv
abbrev GMs := List W → VEnv → SM VEnv
def noX : Exc → Mem → Prop := fun _ _ => False
def denG (K : PySem.W.Frag) (g : GM) : TG := fun v σ H Q => ∃ w env mem loc, Rv K loc H w v ∧ REnv K loc H env σ ∧ Rs K mem loc H ∧ (g w env mem).Post (fun env' mem' => stQ K loc H Q env' mem') noX
def SG (X : Cx) (tg : Expr) (g : GM) : Prop := PG X tg (denG X.K g)
def nameG (i : Nat) : GM := fun w env mem => .ok (env.set i (some w)) mem
def nilG : GMs := fun ws env mem => match ws with
  | [] => .ok env mem
  | _ => .bad
def consG (g : GM) (r : GMs) : GMs := fun ws env => match ws with
  | w :: t => SM.bind (g w env) fun env' => r t env'
  | [] => fun _ => .bad
def tupG (n : Nat) (g : GMs) : GM := fun w env => match w with
  | .tup ws => if ws.length = n then g ws env else fun _ => .bad
  | _ => fun _ => .bad
section
variable {X : Cx} {W' : WX} {pos : Pos}
theorem sg_name {i : Nat} {x : Str} (hN : X.N.Nodup) (hi : X.N[i]? = some x) (hx : Loc X.env.scope x) (hf : X.fn x = true ∨ X.env.scope.names.lookup x = some .local := by first | exact .inl rfl | exact .inr rfl | assumption) : SG X (.Name x pos) (nameG i) :=
  ⟨fun pins s σ H v u Q I r h => (pg_name hN hi hx hf).run pins s σ H v u Q I r (by
    obtain ⟨w, env, mem, loc, rv, re, rs, h⟩ := h
    exact h _ H loc Ext.refl rs (re.set rv i))⟩
def asgS (m : EM) (g : GM) : SS := ofE m fun w env mem => match g w env mem with
  | .ok env' mem' => .nx env' mem'
  | _ => .bad
theorem ss_asg {tg e : Expr} {m : EM} {g : GM} (he : SE X W' e m) (hg : SG X tg g) (hs : swapsWithSole [tg] e pos.line X.env = pure false := by rfl) (hw : swappedStores [tg] e X.env = pure none := by rfl)
    (h1 : (assignEach [tg] X.env).map (·.2) = [assign tg X.env] := by rfl) : SSt X W' (.Assign [tg] e pos) (asgS m g) := by
  refine ps_imp (ps_asg he hg hs hw h1) fun D σ H ⟨env, mem, loc, re, rs, h⟩ => ?_
  refine denE_of (k := fun w env mem => match g w env mem with | .ok env' mem' => .nx env' mem' | _ => .bad) re rs h fun w mem1 v H1 loc1 e1 rs1 rv1 re1 h1 => ?_
  refine ⟨w, env, mem1, loc1, rv1, re1, rs1, ?_⟩
  cases eg : g w env mem1 with
  | ok env' mem' => rw [eg] at h1; exact h1
  | exc x m' => rw [eg] at h1; exact h1
  | bad => rw [eg] at h1; exact h1
end
abbrev Nxt := Nat → Mem → Option (Option W)
def loopS (nx : Nxt) (g : GM) (body : SS) : Nat → Nat → SS := fun k i env mem => match nx i mem with
  | none => .bad
  | some none => .nx env mem
  | some (some x) => match k with
    | 0 => .bad
    | k + 1 => match g x env mem with
      | .ok e1 m1 => match body e1 m1 with
        | .nx e m => loopS nx g body k (i + 1) e m
        | .ct e m => loopS nx g body k (i + 1) e m
        | .bk e m => .nx e m
        | .rt w m => .rt w m
        | .exc x e m => .exc x e m
        | .bad => .bad
      | _ => .bad
/-- an iterator J does what nx says, where P stands -/
structure Walks (K : PySem.W.Frag) (J : It) (nx : Nxt) (P : Locs → Hp → Prop) : Prop where
  keep : ∀ loc H loc' H', Ext loc H loc' H' → P loc H → P loc' H'
  stop : ∀ i mem loc H, Rs K mem loc H → P loc H → nx i mem = some none → J.stop i H
  go : ∀ i mem loc H x, Rs K mem loc H → P loc H → nx i mem = some (some x) → J.go i H ∧ ∀ v H', J.yld i H v H' → Ext loc H loc H' ∧ Rs K mem loc H' ∧ Rv K loc H' x v
section
variable {K : PySem.W.Frag} {W' : WX} {σ : L2.St} {H : Hp} {D : Ends}
theorem for_walk {J : It} {nx : Nxt} {P : Locs → Hp → Prop} {g : GM} {body : SS} (w : Walks K J nx P) {k : Nat} {env : VEnv} {mem : Mem} {loc : Locs} (re : REnv K loc H env σ) (rs : Rs K mem loc H) (p : P loc H)
    (h : (loopS nx g body k 0 env mem).Post (stD K W' loc H D)) :
    ∃ W : Nat → Nat → L2.St → Hp → Prop, (∃ m, W 0 m σ H) ∧ ∀ i m σ H, W i m σ H →
      (J.stop i H ∧ D.nx σ H) ∨ (J.go i H ∧ ∃ N : L2.St → Hp → Prop, (∀ σ' H', N σ' H' → ∃ m', m' < m ∧ W (i + 1) m' σ' H') ∧ ∀ x H', J.yld i H x H' → denG K g x σ H' fun σ2 H2 => denS K W' body { D with nx := N, ct := N, bk := D.nx } σ2 H2) := by
  refine ⟨fun i m σ H => ∃ env mem loc, REnv K loc H env σ ∧ Rs K mem loc H ∧ P loc H ∧ (loopS nx g body m i env mem).Post (stD K W' loc H D), ⟨k, env, mem, loc, re, rs, p, h⟩, ?_⟩
  rintro i m σ H ⟨env, mem, loc, re, rs, p, h⟩
  unfold loopS at h
  cases en : nx i mem with
  | none => rw [en] at h; exact h.elim
  | some o =>
    cases o with
    | none =>
      rw [en] at h
      exact .inl ⟨w.stop i mem loc H rs p en, h σ H loc Ext.refl rs re⟩
    | some x =>
      rw [en] at h
      obtain ⟨go, yld⟩ := w.go i mem loc H x rs p en
      cases m with
      | zero => exact h.elim
      | succ m =>
        refine .inr ⟨go, fun σ' H' => ∃ env mem loc, REnv K loc H' env σ' ∧ Rs K mem loc H' ∧ P loc H' ∧ (loopS nx g body m (i + 1) env mem).Post (stD K W' loc H' D), fun σ' H' z => ⟨m, Nat.lt_succ_self m, z⟩, fun v H1 y => ?_⟩
        obtain ⟨e1, rs1, rv1⟩ := yld v H1 y
        refine ⟨x, env, mem, loc, rv1, re.mono e1, rs1, ?_⟩
        have p1 := w.keep _ _ _ _ e1 p
        dsimp only at h
        cases eg : g x env mem with
        | ok env2 mem2 =>
          rw [eg] at h
          dsimp only at h
          intro σ2 H2 loc2 e2 rs2 re2
          have p2 := w.keep _ _ _ _ e2 p1
          refine ⟨env2, mem2, loc2, re2, rs2, ?_⟩
          have e12 := e1.trans e2
          cases eb : body env2 mem2 with
          | nx e3 m3 => rw [eb] at h; exact fun σ' H' loc' z r q => ⟨e3, m3, loc', q, r, w.keep _ _ _ _ z p2, stD.mono (e12.trans z) h⟩
          | ct e3 m3 => rw [eb] at h; exact fun σ' H' loc' z r q => ⟨e3, m3, loc', q, r, w.keep _ _ _ _ z p2, stD.mono (e12.trans z) h⟩
          | bk e3 m3 => rw [eb] at h; exact stQ.mono e12 h
          | rt w m => rw [eb] at h; exact okQ.mono e12 h
          | exc x w m => rw [eb] at h; exact exS.mono e12 h
          | bad => rw [eb] at h; exact h
        | exc z m' => rw [eg] at h; exact h.elim
        | bad => rw [eg] at h; exact h.elim
end
end Sh
set_option linter.all false
set_option maxRecDepth 100000
set_option maxHeartbeats 4000000
namespace Sh
open PySem PySem.Spec PyProof.Rows L2
structure Walk where
  nx : Nxt
  k : Nat
abbrev IM := VEnv → SM Walk
def denI (K : PySem.W.Frag) (W' : WX) (m : IM) : TI := fun σ H R => ∃ env mem loc, REnv K loc H env σ ∧ Rs K mem loc H ∧
  (m env mem).Post (fun wk mem' => ∀ J H' loc' P, Ext loc H loc' H' → Rs K mem' loc' H' → Walks K J wk.nx P → P loc' H' → R J H') (exQ K W' σ loc H)
def SI (X : Cx) (W' : WX) (tg iter : Expr) (m : IM) : Prop := PI X tg iter (denI X.K W' m)
theorem pi_imp {X : Cx} {tg iter : Expr} {t t' : TI} (h : PI X tg iter t) (i : ∀ σ H Q, t' σ H Q → t σ H Q) : PI X tg iter t' := ⟨fun pins s σ H R I q => h.run pins s σ H R I (i σ H R q)⟩
theorem PI.or {X : Cx} {tg iter : Expr} {t t' : TI} (h : PI X tg iter t) (h' : PI X tg iter t') : PI X tg iter (fun σ H R => t σ H R ∨ t' σ H R) :=
  ⟨fun pins s σ H R I q => q.elim (h.run pins s σ H R I) (h'.run pins s σ H R I)⟩
def forS (it : IM) (g : GM) (body : SS) : SS := ofE it fun wk => loopS wk.nx g body wk.k 0
def tupN (xs : List W) : Nxt := fun i _ => some xs[i]?
def listAt (mem : Mem) (n : Nat) : Option (List W) := match mem[n]? with
  | some (.lst xs) => some xs
  | _ => none
def locN (n : Nat) : Nxt := fun i mem => (listAt mem n).map fun xs => xs[i]?
def rngN (lo : Int) (n : Nat) : Nxt := fun i _ => some (if i < n then some (.int (lo + i)) else none)
/-- what a value is walked as -/
def walkOf (w : W) (mem : Mem) : Option Walk := match w with
  | .tup xs => some ⟨tupN xs, xs.length⟩
  | .rol xs => some ⟨tupN xs, xs.length⟩
  | .loc n => (listAt mem n).map fun xs => ⟨locN n, xs.length⟩
  | _ => none
def seqI (m : EM) : IM := fun env => SM.bind (m env) fun w mem => match walkOf w mem with
  | some wk => .ok wk mem
  | none => .bad
def rng1I (as : AM) : IM := fun env => SM.bind (as env) fun ws mem => match ws with
  | [.int j] => if -(2 ^ 62) ≤ j ∧ j < 2 ^ 62 then .ok ⟨rngN 0 j.toNat, j.toNat⟩ mem else .bad
  | _ => .bad
section
variable {K : PySem.W.Frag}
theorem walks_tup {a : Addr} {xs : List W} : Walks K (Itt K a) (tupN xs) (fun loc H => ∃ vs, SqT K H a vs ∧ Rvs K loc H xs vs) where
  keep := fun loc H loc' H' e ⟨vs, h1, h2⟩ => ⟨vs, e.sqT h1, h2.mono e⟩
  stop := fun i mem loc H rs ⟨vs, h1, h2⟩ e => ⟨vs, h1, by
    have e' := Option.some.inj e
    have l := h2.length
    rw [List.getElem?_eq_none_iff] at e'
    omega⟩
  go := fun i mem loc H x rs ⟨vs, h1, h2⟩ e => by
    obtain ⟨v, hv, rv⟩ := h2.get (Option.some.inj e)
    refine ⟨⟨vs, v, h1, hv⟩, fun v' H' y => ?_⟩
    obtain ⟨rfl, y⟩ := y
    have := y vs h1
    rw [hv] at this
    cases this
    exact ⟨Ext.refl, rs, rv⟩
theorem walks_rol {a : Addr} {xs : List W} : Walks K (Itl K a) (tupN xs) (fun loc H => ∃ vs, RoL K H a vs ∧ Rvs K loc H xs vs) where
  keep := fun loc H loc' H' e ⟨vs, h1, h2⟩ => ⟨vs, e.rol h1, h2.mono e⟩
  stop := fun i mem loc H rs ⟨vs, h1, h2⟩ e => ⟨vs, h1.sq, by
    have e' := Option.some.inj e
    have l := h2.length
    rw [List.getElem?_eq_none_iff] at e'
    omega⟩
  go := fun i mem loc H x rs ⟨vs, h1, h2⟩ e => by
    obtain ⟨v, hv, rv⟩ := h2.get (Option.some.inj e)
    refine ⟨⟨vs, v, h1.sq, hv⟩, fun v' H' y => ?_⟩
    obtain ⟨rfl, y⟩ := y
    have := y vs h1.sq
    rw [hv] at this
    cases this
    exact ⟨Ext.refl, rs, rv⟩
theorem listAt_some {mem : Mem} {n : Nat} {xs : List W} (h : listAt mem n = some xs) : mem[n]? = some (.lst xs) := by
  unfold listAt at h
  split at h
  · cases h; assumption
  · cases h
theorem rs_list {mem : Mem} {loc : Locs} {H : Hp} {n : Nat} {xs : List W} {a : Addr} (rs : Rs K mem loc H) (h : listAt mem n = some xs) (ha : loc[n]? = some a) : ∃ vs, H a = some (.lst vs) ∧ Rvs K loc H xs vs := by
  obtain ⟨b, hb, r⟩ := rs.cell n _ (listAt_some h)
  rw [ha] at hb
  cases hb
  exact r
theorem walks_loc {a : Addr} {n : Nat} : Walks K (Itl K a) (locN n) (fun loc H => loc[n]? = some a) where
  keep := fun loc H loc' H' e h => e.at h
  stop := fun i mem loc H rs h e => by
    unfold locN at e
    cases el : listAt mem n with
    | none => rw [el] at e; cases e
    | some xs =>
      rw [el] at e
      obtain ⟨vs, h1, h2⟩ := rs_list rs el h
      have e' : xs[i]? = none := by simpa using e
      have l := h2.length
      rw [List.getElem?_eq_none_iff] at e'
      exact ⟨vs, SqL.of h1, by omega⟩
  go := fun i mem loc H x rs h e => by
    unfold locN at e
    cases el : listAt mem n with
    | none => rw [el] at e; cases e
    | some xs =>
      rw [el] at e
      obtain ⟨vs, h1, h2⟩ := rs_list rs el h
      have e' : xs[i]? = some x := by simpa using e
      obtain ⟨v, hv, rv⟩ := h2.get e'
      refine ⟨⟨vs, v, SqL.of h1, hv⟩, fun v' H' y => ?_⟩
      obtain ⟨rfl, y⟩ := y
      have := y vs (SqL.of h1)
      rw [hv] at this
      cases this
      exact ⟨Ext.refl, rs, rv⟩
theorem walks_rng {lo : Int} {n : Nat} : Walks K (Itr lo n) (rngN lo n) (fun _ _ => True) where
  keep := fun _ _ _ _ _ _ => trivial
  stop := fun i mem loc H rs _ e => by
    show n ≤ i
    by_cases h : i < n
    · simp [rngN, h] at e
    · omega
  go := fun i mem loc H x rs _ e => by
    by_cases h : i < n
    · simp [rngN, h] at e
      subst e
      refine ⟨h, fun v H' y => ?_⟩
      obtain ⟨rfl, rfl⟩ := y
      exact ⟨Ext.refl, rs, .int _⟩
    · simp [rngN, h] at e
end
section
variable {X : Cx} {W' : WX} {tg : Expr} {pos : Pos}
theorem si_seq {l : Expr} {m : EM} (hl : SE X W' l m) : SI X W' tg l (seqI m) := by
  refine pi_imp (PI.or (pi_tup hl) (pi_list hl)) fun σ H R h => ?_
  obtain ⟨env, mem, loc, re, rs, h⟩ := h
  -- which of the two: by what the value is
  cases em : m env mem with
  | exc x m1 =>
    refine .inl ⟨env, mem, loc, re, rs, ?_⟩
    unfold seqI SM.bind at h
    rw [em] at h ⊢
    exact h
  | bad =>
    unfold seqI SM.bind at h
    rw [em] at h
    exact h.elim
  | ok w m1 =>
    unfold seqI SM.bind at h
    rw [em] at h
    dsimp only at h
    cases w with
    | tup xs =>
      refine .inl ⟨env, mem, loc, re, rs, ?_⟩
      rw [em]
      intro v H1 loc1 e1 rs1 rv1
      cases rv1 with
      | @tup ws a vs h1 h2 => exact ⟨a, rfl, ⟨vs, h1⟩, h _ H1 loc1 _ e1 rs1 walks_tup ⟨vs, h1, h2⟩⟩
    | rol xs =>
      refine .inr ⟨env, mem, loc, re, rs, ?_⟩
      rw [em]
      intro v H1 loc1 e1 rs1 rv1
      cases rv1 with
      | @rol ws a vs h1 h2 => exact ⟨a, rfl, ⟨vs, h1.sq⟩, h _ H1 loc1 _ e1 rs1 walks_rol ⟨vs, h1, h2⟩⟩
    | loc n =>
      refine .inr ⟨env, mem, loc, re, rs, ?_⟩
      rw [em]
      intro v H1 loc1 e1 rs1 rv1
      cases rv1 with
      | @loc n a h1 =>
        unfold walkOf at h
        dsimp only at h
        cases el : listAt m1 n with
        | none => rw [el] at h; exact h.elim
        | some xs =>
          rw [el] at h
          obtain ⟨vs, h2, h3⟩ := rs_list rs1 el h1
          exact ⟨a, rfl, ⟨vs, SqL.of h2⟩, h _ H1 loc1 _ e1 rs1 walks_loc h1⟩
    | _ => exact h.elim
theorem si_range1 {a : Expr} {as : AM} {p pos : Pos} (hg : Gl X "range") (hm : X.mg "range" = none) (ha : SA X W' [a] as) (hs : starEach [a] X.env = [(false, eval a X.env)] := by rfl) : SI X W' tg (.Call (.Name "range" p) [a] [] pos) (rng1I as) := by
  refine pi_imp (pi_range1 hg hm ha hs) fun σ H R h => ?_
  obtain ⟨env, mem, loc, re, rs, h⟩ := h
  refine ⟨env, mem, loc, re, rs, (post_bind h).imp (fun ws m1 hp vs H1 loc1 e1 rs1 rv1 => ?_) fun _ _ z => z⟩
  cases rv1 with
  | nil => exact hp.elim
  | @cons w v ws vs r1 r2 =>
    cases r2 with
    | cons _ _ => cases w <;> exact hp.elim
    | nil =>
      cases w with
      | int j =>
        cases r1
        dsimp only at hp
        by_cases hj : -(2 ^ 62) ≤ j ∧ j < 2 ^ 62
        · rw [if_pos hj] at hp
          exact ⟨j, rfl, hj.1, hj.2, hp _ H1 loc1 _ e1 rs1 walks_rng trivial⟩
        · rw [if_neg hj] at hp
          exact hp.elim
      | _ => exact hp.elim
theorem ss_for {iter : Expr} {body : List Stmt} {it : IM} {g : GM} {s : SS} (hp : PassesOwn (model X.prog X.w) X.A X.env X.xe) (hc : X.calm = true) (hi : SI X W' tg iter it) (hg : SG X tg g) (hb : SBl X W' body s)
    (hs : ∀ x, foldedSetIterable iter X.env x = pure x := by intro _; rfl) : SSt X W' (.For tg iter body [] pos) (forS it g s) := by
  refine ps_imp (ps_for hp hc hi hg hb hs) fun D σ H ⟨env, mem, loc, re, rs, h⟩ => ?_
  refine ⟨env, mem, loc, re, rs, (ofE_post h).imp (fun wk m1 hp J H1 loc1 P e1 rs1 w p => ?_) fun _ _ z => exQ_of re z⟩
  exact for_walk w (re.mono e1) rs1 p (stD.mono e1 hp)
end
abbrev WX0 : WX := fun _ _ _ _ => False
def wipeE (env : VEnv) : List Nat → VEnv
  | [] => env
  | v :: vs => (wipeE env vs).set v none
def lcLoop (nx : Nxt) (g : GM) (t : BM) (e : EM) (vs : List Nat) (D : Nat) (env : VEnv) : Nat → Nat → Mem → Option Mem := fun k i mem => match nx i mem with
  | none => none
  | some none => some mem
  | some (some x) => match k with
    | 0 => none
    | k + 1 => match g x (wipeE env vs) mem with
      | .ok e2 m2 => match t e2 m2 with
        | .ok true m3 => match e e2 m3 with
          | .ok w m4 => match listAt m4 D with
            | some acc => if acc.length < sizeLine then lcLoop nx g t e vs D env k (i + 1) (m4.set D (.lst (acc ++ [w]))) else none
            | none => none
          | _ => none
        | .ok false m3 => lcLoop nx g t e vs D env k (i + 1) m3
        | _ => none
      | _ => none
def lcE (it : IM) (g : GM) (t : BM) (e : EM) (vs : List Nat) : EM := fun env => SM.bind (it env) fun wk mem =>
  match lcLoop wk.nx g t e vs mem.length env wk.k 0 (mem ++ [.lst []]) with
  | some m => .ok (.loc mem.length) m
  | none => .bad
/-- a target that stores in the slots vs alone -/
def Out (vs : List Nat) (σ σ' : L2.St) : Prop := σ'.length = σ.length ∧ ∀ j, j ∉ vs → σ'[j]? = σ[j]?
theorem Out.trans {vs : List Nat} {σ σ1 σ2 : L2.St} (a : Out vs σ σ1) (b : Out vs σ1 σ2) : Out vs σ σ2 := ⟨b.1.trans a.1, fun j h => (b.2 j h).trans (a.2 j h)⟩
theorem Out.set {vs : List Nat} {σ : L2.St} {i : Nat} {x : Option V} (h : i ∈ vs) : Out vs σ (σ.set i x) := ⟨List.length_set, fun j hj => List.getElem?_set_ne (by rintro rfl; exact hj h)⟩
theorem wipe_get (σ : L2.St) : ∀ (vs : List Nat) (j : Nat), (L2.wipe σ vs)[j]? = if j ∈ vs ∧ j < σ.length then some none else σ[j]?
  | [], j => by simp [L2.wipe]
  | v :: vs, j => by
    unfold L2.wipe
    by_cases hj : v = j
    · subst hj
      by_cases hl : v < σ.length
      · rw [List.getElem?_set_self (by rw [L2.wipe_length]; exact hl), if_pos ⟨List.mem_cons_self, hl⟩]
      · rw [if_neg (fun h => hl h.2), List.getElem?_eq_none (by rw [List.length_set, L2.wipe_length]; omega), List.getElem?_eq_none (by omega)]
    · rw [List.getElem?_set_ne hj, wipe_get σ vs j]
      by_cases hm : j ∈ vs
      · by_cases hl : j < σ.length
        · rw [if_pos ⟨hm, hl⟩, if_pos ⟨List.mem_cons_of_mem _ hm, hl⟩]
        · rw [if_neg (fun z => hl z.2), if_neg (fun z => hl z.2)]
      · rw [if_neg (fun z => hm z.1), if_neg (fun z => (List.mem_cons.mp z.1).elim (fun q => hj q.symm) hm)]
theorem Out.wipe {vs : List Nat} {σ σ' : L2.St} (h : Out vs (L2.wipe σ vs) σ') : L2.wipe σ' vs = L2.wipe σ vs := by
  have hl : σ'.length = σ.length := h.1.trans (L2.wipe_length _ _)
  refine List.ext_getElem? fun j => ?_
  rw [wipe_get, wipe_get, hl]
  by_cases hj : j ∈ vs
  · by_cases hz : j < σ.length
    · rw [if_pos ⟨hj, hz⟩, if_pos ⟨hj, hz⟩]
    · rw [if_neg (fun z => hz z.2), if_neg (fun z => hz z.2), List.getElem?_eq_none (by omega), List.getElem?_eq_none (by omega)]
  · rw [if_neg (fun z => hj z.1), if_neg (fun z => hj z.1), h.2 j hj, wipe_get, if_neg (fun z => hj z.1)]
def denO (K : PySem.W.Frag) (vs : List Nat) (g : GM) : TG := fun v σ H Q => ∃ w env mem loc, Rv K loc H w v ∧ REnv K loc H env σ ∧ Rs K mem loc H ∧
  (g w env mem).Post (fun env' mem' => stQ K loc H (fun σ' H' => Out vs σ σ' → Q σ' H') env' mem') noX
def SO (X : Cx) (vs : List Nat) (tg : Expr) (g : GM) : Prop := PG X tg (denO X.K vs g)
section
variable {X : Cx} {vs : List Nat} {pos : Pos}
theorem so_name {i : Nat} {x : Str} (hN : X.N.Nodup) (hi : X.N[i]? = some x) (hx : Loc X.env.scope x) (hv : i ∈ vs) (hf : X.fn x = true ∨ X.env.scope.names.lookup x = some .local := by first | exact .inl rfl | exact .inr rfl | assumption) : SO X vs (.Name x pos) (nameG i) :=
  ⟨fun pins s σ H v u Q I r h => (pg_name hN hi hx hf).run pins s σ H v u Q I r (by
    obtain ⟨w, env, mem, loc, rv, re, rs, h⟩ := h
    exact h _ H loc Ext.refl rs (re.set rv i) (Out.set hv))⟩
end
section
variable {K : PySem.W.Frag} {loc : Locs} {H : Hp} {env : VEnv} {σ : L2.St}
theorem REnv.wipe (r : REnv K loc H env σ) : ∀ vs : List Nat, REnv K loc H (wipeE env vs) (L2.wipe σ vs)
  | [] => r
  | v :: vs => (r.wipe vs).unset v
def yesB : BM := fun _ => SM.pure true
theorem den_lc {W' : WX} {it : IM} {g : GM} {t : BM} {e : EM} {vs : List Nat} {Q : VK} (h : denE K W' (lcE it g t e vs) σ H Q) :
    tLc (denI K W' it) (denO K vs g) (denB K WX0 t) (denE K WX0 e) vs σ H Q := by
  obtain ⟨env, mem, loc, re, rs, h⟩ := h
  refine ⟨env, mem, loc, re, rs, (post_bind h).imp (fun wk m1 hp J H1 loc1 P e1 rs1 w p D hD => ?_) fun _ _ z => z⟩
  have re1 := re.mono e1
  obtain ⟨rsD, rvD⟩ := rs_newlist rs1 (.nil (K := K) (loc := loc1) (H := H1)) hD
  have eD : Ext loc1 H1 (loc1 ++ [D]) (upd H1 D (.lst [])) := Ext.alloc hD
  have atD : (loc1 ++ [D])[m1.length]? = some D := by cases rvD with | loc h => exact h
  generalize m1.length = n0 at hp atD
  cases el : lcLoop wk.nx g t e vs n0 env wk.k 0 (m1 ++ [.lst []]) with
  | none => rw [el] at hp; exact hp.elim
  | some mf =>
    rw [el] at hp
    refine ⟨fun i m H => ∃ mem loc, REnv K loc H env σ ∧ Rs K mem loc H ∧ P loc H ∧ loc[n0]? = some D ∧ lcLoop wk.nx g t e vs n0 env m i mem = some mf ∧ okQ K loc H Q (.loc n0) mf,
      ⟨wk.k, m1 ++ [.lst []], loc1 ++ [D], re1.mono eD, rsD, w.keep _ _ _ _ eD p, atD, el, okQ.mono (e1.trans eD) hp⟩, ?_⟩
    rintro i m H2 ⟨mem2, loc2, re2, rs2, p2, at2, el2, q2⟩
    unfold lcLoop at el2
    cases en : wk.nx i mem2 with
    | none => rw [en] at el2; cases el2
    | some o =>
      cases o with
      | none =>
        rw [en] at el2
        cases el2
        exact .inl ⟨w.stop i mf loc2 H2 rs2 p2 en, q2 _ H2 loc2 Ext.refl rs2 (.loc at2)⟩
      | some x =>
        rw [en] at el2
        obtain ⟨go, yld⟩ := w.go i mem2 loc2 H2 x rs2 p2 en
        cases m with
        | zero => cases el2
        | succ m =>
          dsimp only at el2
          refine .inr ⟨go, fun H' => ∃ mem loc, REnv K loc H' env σ ∧ Rs K mem loc H' ∧ P loc H' ∧ loc[n0]? = some D ∧ lcLoop wk.nx g t e vs n0 env m (i + 1) mem = some mf ∧ okQ K loc H' Q (.loc n0) mf, fun H' z => ⟨m, Nat.lt_succ_self m, z⟩, fun v H3 y => ?_⟩
          obtain ⟨e3, rs3, rv3⟩ := yld v H3 y
          refine ⟨x, wipeE env vs, mem2, loc2, rv3, (re2.mono e3).wipe vs, rs3, ?_⟩
          cases eg : g x (wipeE env vs) mem2 with
          | exc _ _ => rw [eg] at el2; cases el2
          | bad => rw [eg] at el2; cases el2
          | ok env4 mem4 =>
            rw [eg] at el2
            dsimp only at el2
            intro σ4 H4 loc4 e4 rs4 re4 o4
            refine ⟨o4.wipe, env4, mem4, loc4, re4, rs4, ?_⟩
            cases et : t env4 mem4 with
            | exc _ _ => rw [et] at el2; cases el2
            | bad => rw [et] at el2; cases el2
            | ok b mem5 =>
              rw [et] at el2
              intro H5 loc5 e5 rs5
              have e25 := (e3.trans e4).trans e5
              cases b with
              | false =>
                dsimp only at el2
                exact ⟨mem5, loc5, re2.mono e25, rs5, w.keep _ _ _ _ e25 p2, e25.at at2, el2, q2.mono e25⟩
              | true =>
                dsimp only at el2
                refine ⟨env4, mem5, loc5, re4.mono e5, rs5, ?_⟩
                cases ee : e env4 mem5 with
                | exc _ _ => rw [ee] at el2; cases el2
                | bad => rw [ee] at el2; cases el2
                | ok wv mem6 =>
                  rw [ee] at el2
                  dsimp only at el2
                  intro v6 H6 loc6 e6 rs6 rv6
                  have e26 := e25.trans e6
                  cases ea : listAt mem6 n0 with
                  | none => rw [ea] at el2; cases el2
                  | some acc =>
                    rw [ea] at el2
                    dsimp only at el2
                    obtain ⟨us, hus, rus⟩ := rs_list rs6 ea (e26.at at2)
                    by_cases hz : acc.length < sizeLine
                    · rw [if_pos hz] at el2
                      have ew : Ext loc6 H6 loc6 (upd H6 D (.lst (us ++ [v6]))) := Ext.wr hus trivial
                      refine ⟨us, hus, by rw [← rus.length]; exact hz, mem6.set n0 (.lst (acc ++ [wv])), loc6, re2.mono (e26.trans ew), ?_, w.keep _ _ _ _ (e26.trans ew) p2, e26.at at2, el2, q2.mono (e26.trans ew)⟩
                      exact rs6.write (c := .lst (acc ++ [wv])) (e26.at at2) hus trivial ⟨_, upd_same, (rus.mono ew).append (.cons (rv6.mono ew) .nil)⟩ (fun n k z => by rw [listAt_some ea] at z; cases z)
                    · rw [if_neg hz] at el2
                      cases el2
end
section
variable {X : Cx} {W' : WX}
theorem se_lc {elt tg iter : Expr} {ifs : List Expr} {scope : Scope} {own : List (Str × Nat)} {pos : Pos} {it : IM} {g : GM} {t : BM} {e : EM} (hc : X.calm = true) (hN : X.N.Nodup) (hi : SI X W' tg iter it) (ok : BlkOk X.N X.env.scope scope own)
    (hg : ∀ (s : Shared) (H : Hp) (C : Addr) (cl : List (Str × Addr)) (fp : List Addr), SO (X.blk s H scope (compEnvC scope cl C X.env) fp) (own.map (·.2)) tg g)
    (ht : ∀ (s : Shared) (H : Hp) (C : Addr) (cl : List (Str × Addr)) (fp : List Addr), PTs (X.blk s H scope (compEnvC scope cl C X.env) fp) ifs (denB X.K WX0 t))
    (he : ∀ (s : Shared) (H : Hp) (C : Addr) (cl : List (Str × Addr)) (fp : List Addr), SE (X.blk s H scope (compEnvC scope cl C X.env) fp) WX0 elt e) (hs : ∀ x, foldedSetIterable iter X.env x = pure x := by intro _; rfl) :
    SE X W' (.ListComp elt [⟨tg, iter, ifs, 0⟩] scope pos) (lcE it g t e (own.map (·.2))) := by
  have hg' : ∀ (s : Shared) (H : Hp) (C : Addr) (cl : List (Str × Addr)) (fp : List Addr), PG (X.blk s H scope (compEnvC scope cl C X.env) fp) tg (denO X.K (own.map (·.2)) g) := hg
  have he' : ∀ (s : Shared) (H : Hp) (C : Addr) (cl : List (Str × Addr)) (fp : List Addr), PE (X.blk s H scope (compEnvC scope cl C X.env) fp) elt (denE X.K WX0 e) := he
  have hi' : PI X tg iter (denI X.K W' it) := hi
  exact pe_imp (pe_lc hc hN hi' ok hg' ht he' hs) fun _ _ _ h => den_lc h
theorem sts_nil {Y : Cx} : PTs Y [] (denB Y.K WX0 yesB) := ⟨fun pins s σ H Q I h => pts_nil.run pins s σ H Q I (by
  obtain ⟨env, mem, loc, re, rs, h⟩ := h
  exact h H loc Ext.refl rs)⟩
end
abbrev Fn := List W → SM W
def spS (K : PySem.W.Frag) (n : Nat) (F : Fn) : Sp := fun vs H Q E => vs.length = n ∧ ∃ ws mem loc, Rvs K loc H ws vs ∧ Rs K mem loc H ∧
  (F ws mem).Post (okQ K loc H Q) (fun x mem' => ∀ cls d H' loc', Ext loc H loc' H' → Rs K mem' loc' H' → Rx K loc' H' x cls d → E cls d H')
def FnS (P : Program) (w : World) (K : PySem.W.Frag) (mg : Str → Option Value) (base : Heap) (k : Nat) (f : Addr) (fd : FuncData) (ps : List Str) (F : Fn) : Prop :=
  FnOk P w K mg base (L2.CX P w) k f fd ps (spS K ps.length F)
def startE (n : Nat) (ws : List W) : VEnv := ws.map some ++ List.replicate (n - ws.length) none
/-- a body's answer -/
def runB (n : Nat) (s : SS) : Fn := fun ws mem => match s (startE n ws) mem with
  | .nx _ m => .ok .non m
  | .rt w m => .ok w m
  | .exc x _ m => .exc x m
  | _ => .bad
theorem renv_start {K : PySem.W.Frag} {loc : Locs} {H : Hp} {N : List Str} {ws : List W} {vs : List V} (r : Rvs K loc H ws vs) : REnv K loc H (startE N.length ws) (L2.start N vs) := by
  have l := r.length
  refine ⟨by unfold startE L2.start; simp [l], fun i w h => ?_⟩
  unfold startE at h
  unfold L2.start
  by_cases hi : i < ws.length
  · rw [List.getElem?_append_left (by simpa using hi), List.getElem?_map] at h
    cases e : ws[i]? with
    | none => rw [e] at h; cases h
    | some u =>
      rw [e] at h
      cases h
      obtain ⟨v, hv, rv⟩ := r.get e
      exact ⟨v, by rw [List.getElem?_append_left (by rw [List.length_map]; omega), List.getElem?_map, hv]; rfl, rv⟩
  · rw [List.getElem?_append_right (by simpa using hi), List.getElem?_replicate] at h
    split at h <;> cases h
section
variable {P : Program} {w : World} {K : PySem.W.Frag} {mg : Str → Option Value} {base : Heap}
theorem FnS.mono {j k : Nat} {f : Addr} {fd : FuncData} {ps : List Str} {F : Fn} (h : FnS P w K mg base j f fd ps F) (l : j ≤ k) : FnS P w K mg base k f fd ps F := FnOk.mono h l
theorem FnS.bad {f : Addr} {fd : FuncData} {ps : List Str} {k : Nat} : FnS P w K mg base k f fd ps (fun _ _ => .bad) :=
  ⟨fun vs H Q E h => h.1, fun A outer s H args us vs Q E hr e0 hb r h => by obtain ⟨_, _, _, _, _, _, h⟩ := h; exact h.elim⟩
/-- another answer that is as good -/
theorem FnS.imp {k : Nat} {f : Addr} {fd : FuncData} {ps : List Str} {F F' : Fn} (h : FnS P w K mg base k f fd ps F) (i : ∀ ws mem, F' ws mem = .bad ∨ F' ws mem = F ws mem) : FnS P w K mg base k f fd ps F' :=
  FnOk.imp h fun vs H Q E ⟨l, ws, mem, loc, rv, rs, q⟩ => ⟨l, ws, mem, loc, rv, rs, by
    rcases i ws mem with e | e
    · rw [e] at q; exact q.elim
    · rw [e] at q; exact q⟩
theorem fn_ok {x qual : Str} {st : Stmt} {f : Addr} {fd : FuncData} {N ps : List Str} {k : Nat} {s : SS} (F : Fun K x qual st f fd) (S : FnScope N ps (defScope st))
    (hbody : ∀ (cdv : Value) (A : Around) (outer : List Env) (s0 : Shared) (H : Hp) (E : XK), Room k (A.deeper (envOfC qual (defScope st) s0.heap.objs.size f cdv)) →
      SBl (cxOf (L2.CX P w) P w K mg base N qual (defScope st) f cdv A outer s0 H E) (fun cls d _ H => E cls d H) (defBody st) s) :
    FnS P w K mg base (k + 1) f fd ps (runB N.length s) := by
  refine F.okX S (fun vs H Q E h => h.1) (fun cdv A outer s0 H vs Q E hr h => ⟨_, hbody cdv A outer s0 H E hr, ?_⟩)
  obtain ⟨l, ws, mem, loc, rv, rs, h⟩ := h
  refine ⟨startE N.length ws, mem, loc, renv_start rv, rs, ?_⟩
  unfold runB at h
  cases e : s (startE N.length ws) mem with
  | nx e1 m => rw [e] at h; exact fun σ' H' loc' x r _ => h .non H' loc' x r .non
  | rt u m => rw [e] at h; exact h
  | bk e1 m => rw [e] at h; exact h.elim
  | ct e1 m => rw [e] at h; exact h.elim
  | exc x e1 m => rw [e] at h; exact fun cls d σ' H' loc' y r z _ => h cls d H' loc' y r z
  | bad => rw [e] at h; exact h.elim
end
def callF (F : Fn) (as : AM) : EM := fun env => SM.bind (as env) fun ws => F ws
section
variable {X : Cx} {W' : WX} {k : Nat} {f : Addr} {fd : FuncData} {ps : List Str} {F : Fn} {x : Str} {p pos : Pos} {e : Expr} {es : List Expr} {as : AM}
theorem den_call {K : PySem.W.Frag} {σ : L2.St} {H : Hp} {Q : VK} {n : Nat} (h : denE K W' (callF F as) σ H Q) (hn : ∀ env mem ws m, as env mem = .ok ws m → ws.length = n) :
    denA K W' as σ H fun vs H1 => spS K n F vs H1 Q (WE W' σ) := by
  obtain ⟨env, mem, loc, re, rs, h⟩ := h
  refine ⟨env, mem, loc, re, rs, ?_⟩
  have h' := post_bind (f := fun ws => F ws) h
  cases ea : as env mem with
  | exc x m => rw [ea] at h'; exact h'
  | bad => rw [ea] at h'; exact h'
  | ok ws m1 =>
    rw [ea] at h'
    intro vs H1 loc1 e1 rs1 rv1
    exact ⟨by rw [← rv1.length]; exact hn env mem ws m1 ea, ws, m1, loc1, rv1, rs1, Res.Post.imp h' (fun _ _ z => okQ.mono e1 z) fun y m2 z cls d H2 l2 e2 => z cls d H2 l2 (e1.trans e2)⟩
/-- how many arguments -/
def NArgs (n : Nat) (as : AM) : Prop := ∀ env mem ws m, as env mem = .ok ws m → ws.length = n
theorem nargs_nil : NArgs 0 nilA := fun env mem ws m h => by cases h; rfl
theorem nargs_cons {n : Nat} {m : EM} {as : AM} (h : NArgs n as) : NArgs (n + 1) (consA m as) := fun env mem ws m' e => by
  unfold consA SM.bind SM.pure at e
  cases e1 : m env mem with
  | ok w m1 =>
    rw [e1] at e
    dsimp only at e
    cases e2 : as env m1 with
    | ok us m2 =>
      rw [e2] at e
      dsimp only at e
      cases e
      rw [List.length_cons, h env m1 us m' e2]
    | exc _ _ => rw [e2] at e; cases e
    | bad => rw [e2] at e; cases e
  | exc _ _ => rw [e1] at e; cases e
  | bad => rw [e1] at e; cases e
theorem se_call (G : FnS X.prog X.w X.K X.mg X.base k f fd ps F) (hr : Room k X.A) (hg : Gl X x) (hm : X.mg x = some (.ref f)) (hk : PySem.W.keepIn X.K (.ref f) = true) (hb : Binds X.K fd ps []) (tk : Takes X W')
    (ha : SA X W' (e :: es) as) (hn : NArgs ps.length as) (hdb : (x == ("__debug__" : Str)) = false := by decide) (he : starEach (e :: es) X.env = (false, eval e X.env) :: starEach es X.env := by rfl) (hpl : (backTo pos (starEach es X.env)).any (·.1) = false := by rfl) :
    SE X W' (.Call (.Name x p) (e :: es) [] pos) (callF F as) :=
  pe_imp (pe_callS G hr hg hm hk hb (fun σ => passAt tk σ) ha hdb he hpl) fun _ _ _ h => den_call h hn
end
end Sh
set_option linter.all false
set_option maxRecDepth 100000
set_option maxHeartbeats 4000000
namespace Sh
open PySem PySem.Spec PyProof.Rows L2
theorem opR_of {X : Cx} {g : Value → Value → Sem Value} {r : R2} {f : Op2} (ho : OpR X g r) (h : ∀ wx wy mem loc H x y w mem' (Q : VK), Rs X.K mem loc H → Rv X.K loc H wx x → Rv X.K loc H wy y → f wx wy mem = some (w, mem') → okQ X.K loc H Q w mem' → r x y H Q) : OpR X g (opP X.K f) :=
  fun pins s σ H x y v u Q I rx ry q => by
    obtain ⟨wx, wy, mem, loc, rs, r1, r2, w, mem', e, q⟩ := q
    exact ho pins s σ H x y v u Q I rx ry (h wx wy mem loc H x y w mem' Q rs r1 r2 e q)
theorem callR_of {X : Cx} {g : Value} {r : List V → Hp → VK → Prop} {f : OpN} (ho : CallR X g r) (h : ∀ ws mem loc H xs w mem' (Q : VK), Rs X.K mem loc H → Rvs X.K loc H ws xs → f ws mem = some (w, mem') → okQ X.K loc H Q w mem' → r xs H Q) : CallR X g (caP X.K f) :=
  fun pins s σ H xs us Q I rx q => by
    obtain ⟨ws, mem, loc, rs, r1, w, mem', e, q⟩ := q
    exact ho pins s σ H xs us Q I rx (h ws mem loc H xs w mem' Q rs r1 e q)
theorem unR_of {X : Cx} {g : Value → Sem Value} {r : V → Hp → VK → Prop} {f : Op1} (ho : UnR X g r) (h : ∀ wx mem loc H x w mem' (Q : VK), Rs X.K mem loc H → Rv X.K loc H wx x → f wx mem = some (w, mem') → okQ X.K loc H Q w mem' → r x H Q) : UnR X g (unP X.K f) :=
  fun pins s σ H x v Q I rx q => by
    obtain ⟨wx, mem, loc, rs, r1, w, mem', e, q⟩ := q
    exact ho pins s σ H x v Q I rx (h wx mem loc H x w mem' Q rs r1 e q)
theorem ixR_of {X : Cx} {r : R2} {f : Op2} (ho : IxR X r) (h : ∀ wx wy mem loc H x y w mem' (Q : VK), Rs X.K mem loc H → Rv X.K loc H wx x → Rv X.K loc H wy y → f wx wy mem = some (w, mem') → okQ X.K loc H Q w mem' → r x y H Q) : IxR X (opP X.K f) :=
  fun value slice pins s σ H x y v u Q I rx ry q hs => by
    obtain ⟨wx, wy, mem, loc, rs, r1, r2, w, mem', e, q⟩ := q
    exact ho value slice pins s σ H x y v u Q I rx ry (h wx wy mem loc H x y w mem' Q rs r1 r2 e q) hs
/-- two ints, under C -/
def iiV (C : Int → Int → Bool) (g : Int → Int → W) : Op2 := fun x y mem => match x, y with
  | .int i, .int j => if C i j = true then some (g i j, mem) else none
  | _, _ => none
theorem iiV_ok {C : Int → Int → Bool} {g : Int → Int → W} {wx wy w : W} {mem mem' : Mem} (h : iiV C g wx wy mem = some (w, mem')) : ∃ i j, wx = .int i ∧ wy = .int j ∧ C i j = true ∧ w = g i j ∧ mem' = mem := by
  unfold iiV at h
  split at h
  · rename_i i j
    by_cases hc : C i j = true
    · rw [if_pos hc] at h
      cases h
      exact ⟨i, j, rfl, rfl, hc, rfl, rfl⟩
    · rw [if_neg hc] at h
      cases h
  · cases h
section
variable {X : Cx}
def subV : Op2 := iiV (fun _ _ => true) fun i j => .int (i - j)
def mulV : Op2 := iiV (fun i j => (decide (-(2 ^ 64) < i) && decide (i < 2 ^ 64)) || (decide (-(2 ^ 64) < j) && decide (j < 2 ^ 64))) fun i j => .int (i * j)
def modV : Op2 := iiV (fun _ j => decide (0 < j)) fun i j => .int (i % j)
def fdivV : Op2 := iiV (fun _ j => decide (0 < j) && decide (j < 1073741824)) fun i j => .int (i / j)
def powV : Op2 := iiV (fun i j => decide (0 ≤ j) && decide (j ≤ 1000000) && decide (i.natAbs < 2 ^ 64)) fun i j => .int (i ^ j.toNat)
def ltV : Op2 := iiV (fun _ _ => true) fun i j => .bl (decide (i < j))
def geV : Op2 := iiV (fun _ _ => true) fun i j => .bl (decide (j ≤ i))
theorem rI0_of {C : Int → Int → Bool} {g : Int → Int → W} {g' : Int → Int → V} {op : Value → Value → Sem Value} (ho : OpR X op (rI0 g')) (hg : ∀ i j, isFlat (g i j) = true ∧ flatW (g i j) = g' i j) : OpR X op (opP X.K (iiV C g)) :=
  opR_of ho fun wx wy mem loc H x y w mem' Q rs r1 r2 e q => by
    obtain ⟨i, j, rfl, rfl, hc, rfl, rfl⟩ := iiV_ok e
    cases r1
    cases r2
    refine ⟨i, j, rfl, rfl, ?_⟩
    rw [← (hg i j).2]
    exact q.flat rs (hg i j).1
theorem rI_of {C : Int → Int → Bool} {C' : Int → Int → Prop} {g : Int → Int → W} {g' : Int → Int → V} {op : Value → Value → Sem Value} (ho : OpR X op (rI C' g')) (hC : ∀ i j, C i j = true → C' i j) (hg : ∀ i j, isFlat (g i j) = true ∧ flatW (g i j) = g' i j) : OpR X op (opP X.K (iiV C g)) :=
  opR_of ho fun wx wy mem loc H x y w mem' Q rs r1 r2 e q => by
    obtain ⟨i, j, rfl, rfl, hc, rfl, rfl⟩ := iiV_ok e
    cases r1
    cases r2
    refine ⟨i, j, rfl, rfl, hC i j hc, ?_⟩
    rw [← (hg i j).2]
    exact q.flat rs (hg i j).1
theorem o_sub : OpR X (binaryOp .Sub) (opP X.K subV) := rI0_of op_sub fun _ _ => ⟨rfl, rfl⟩
theorem o_mul : OpR X (binaryOp .Mult) (opP X.K mulV) := rI_of op_mul (fun i j h => by
  simp only [Bool.or_eq_true, Bool.and_eq_true, decide_eq_true_eq] at h
  exact h) fun _ _ => ⟨rfl, rfl⟩
theorem o_mod : OpR X (binaryOp .Mod) (opP X.K modV) := rI_of op_mod (fun i j h => of_decide_eq_true h) fun _ _ => ⟨rfl, rfl⟩
theorem o_fdiv : OpR X (binaryOp .FloorDiv) (opP X.K fdivV) := rI_of op_fdiv (fun i j h => by
  simp only [Bool.and_eq_true, decide_eq_true_eq] at h
  exact h) fun _ _ => ⟨rfl, rfl⟩
theorem o_pow : OpR X (binaryOp .Pow) (opP X.K powV) := rI_of op_pow (fun i j h => by
  simp only [Bool.and_eq_true, decide_eq_true_eq] at h
  exact ⟨h.1.1, h.1.2, h.2⟩) fun _ _ => ⟨rfl, rfl⟩
theorem o_lt : OpR X (compareOp .Lt) (opP X.K ltV) := rI0_of op_lt fun _ _ => ⟨rfl, rfl⟩
theorem o_ge : OpR X (compareOp .GtE) (opP X.K geV) := rI0_of op_ge fun _ _ => ⟨rfl, rfl⟩
def negV : Op1 := fun x mem => match x with
  | .int i => some (.int (-i), mem)
  | _ => none
theorem o_neg : UnR X (unaryOp .USub) (unP X.K negV) := unR_of un_neg fun wx mem loc H x w mem' Q rs r1 e q => by
  cases wx with
  | int i => cases e; cases r1; exact ⟨i, rfl, q.flat rs rfl⟩
  | _ => cases e
def addV : Op2 := fun x y mem => match x, y with
  | .int i, .int j => some (.int (i + j), mem)
  | .str a, .str b => if a.length + b.length ≤ sizeLine then some (.str (a ++ b), mem) else none
  | .tup xs, .tup ys => if xs.length + ys.length ≤ sizeLine then some (.tup (xs ++ ys), mem) else none
  | .loc a, .loc b => match listAt mem a, listAt mem b with
    | some xs, some ys => if xs.length + ys.length ≤ sizeLine then some (.loc mem.length, mem ++ [.lst (xs ++ ys)]) else none
    | _, _ => none
  | _, _ => none
theorem o_add : OpR X (binaryOp .Add) (opP X.K addV) := by
  refine opR_of (op_add.or (op_add_str.or (op_catA.or op_cat))) fun wx wy mem loc H x y w mem' Q rs r1 r2 e q => ?_
  unfold addV at e
  split at e
  · cases e; cases r1; cases r2
    exact .inl ⟨_, _, rfl, rfl, q.flat rs rfl⟩
  · rename_i a b
    by_cases hz : a.length + b.length ≤ sizeLine
    · rw [if_pos hz] at e
      cases e; cases r1; cases r2
      exact .inr (.inl ⟨_, _, rfl, rfl, hz, q.flat rs rfl⟩)
    · rw [if_neg hz] at e; cases e
  · rename_i xs ys
    by_cases hz : xs.length + ys.length ≤ sizeLine
    · rw [if_pos hz] at e
      cases e
      cases r1 with
      | @tup _ a vs h1 h2 z1 =>
        cases r2 with
        | @tup _ b us h3 h4 z2 =>
          refine .inr (.inr (.inl ⟨a, b, vs, us, rfl, rfl, h1, h3, by rw [← h2.length, ← h4.length]; exact hz, fun hn => ?_, fun _ hn => ?_, fun _ _ p hp => ?_⟩))
          · subst hn
            cases h2
            exact q _ H loc Ext.refl rs (.tup h3 h4 z2)
          · subst hn
            cases h4
            rw [List.append_nil] at q
            exact q _ H loc Ext.refl rs (.tup h1 h2 z1)
          · exact q _ _ loc (Ext.new hp) (rs.grow hp) (.tup (SqT.of upd_same) ((h2.append h4).mono (Ext.new hp)) fun _ => upd_same)
    · rw [if_neg hz] at e; cases e
  · rename_i a b
    cases ea : listAt mem a with
    | none => rw [ea] at e; cases e
    | some xs =>
      cases eb : listAt mem b with
      | none => rw [ea, eb] at e; cases e
      | some ys =>
        rw [ea, eb] at e
        dsimp only at e
        by_cases hz : xs.length + ys.length ≤ sizeLine
        · rw [if_pos hz] at e
          cases e
          cases r1 with
          | @loc _ p h1 =>
            cases r2 with
            | @loc _ p' h2 =>
              obtain ⟨vs, h3, h4⟩ := rs_list rs ea h1
              obtain ⟨us, h5, h6⟩ := rs_list rs eb h2
              refine .inr (.inr (.inr ⟨p, p', vs, us, rfl, rfl, h3, h5, by rw [← h4.length, ← h6.length]; exact hz, fun n hn => ?_⟩))
              obtain ⟨r1, r2⟩ := rs_newlist rs (h4.append h6) hn
              exact q _ _ _ (Ext.alloc hn) r1 r2
        · rw [if_neg hz] at e; cases e
  · cases e
/-- a value as data, lists read where they stand; n: how deep -/
def toN (mem : Mem) : Nat → W → Option PyData
  | 0, _ => none
  | n + 1, w => match w with
    | .non => some .none
    | .bl b => some (.bool b)
    | .int i => some (.int i)
    | .str x => some (.str x)
    | .tup xs => (xs.mapM (toN mem n)).map .tuple
    | .rol xs => (xs.mapM (toN mem n)).map .list
    | .loc i => (listAt mem i).bind fun xs => (xs.mapM (toN mem n)).map .list
    | .ty _ => none
    | .ob _ => none
    | .ex0 _ => none
    | .ex1 _ _ _ => none
abbrev toM (mem : Mem) (w : W) : Option PyData := toN mem 65 w
theorem mapM_cons_some {α β : Type} {f : α → Option β} {x : α} {xs : List α} {ds : List β} (h : (x :: xs).mapM f = some ds) : ∃ d r, f x = some d ∧ xs.mapM f = some r ∧ ds = d :: r := by
  simp only [List.mapM_cons, Option.bind_eq_bind, Option.pure_def] at h
  cases h1 : f x with
  | none => rw [h1] at h; cases h
  | some d =>
    rw [h1] at h
    cases h2 : xs.mapM f with
    | none => rw [h2] at h; cases h
    | some r =>
      rw [h2] at h
      cases h
      exact ⟨d, r, rfl, rfl, rfl⟩
theorem rvs_dpN {K : PySem.W.Frag} {mem : Mem} {loc : Locs} {H : Hp} {n : Nat} (ih : ∀ (w : W) (v : V) (d : PyData), Rv K loc H w v → toN mem n w = some d → Dp K H v d) :
    ∀ {ws : List W} {vs : List V} {ds : List PyData}, Rvs K loc H ws vs → ws.mapM (toN mem n) = some ds → DpAll K H vs ds
  | _, _, ds, .nil, e => by simp at e; subst e; exact .nil
  | _, _, ds, .cons r t, e => by
    obtain ⟨d, r', h1, h2, rfl⟩ := mapM_cons_some e
    exact .cons (ih _ _ _ r h1) (rvs_dpN ih t h2)
theorem rv_dpN {K : PySem.W.Frag} {mem : Mem} {loc : Locs} {H : Hp} (rs : Rs K mem loc H) : ∀ (n : Nat) (w : W) (v : V) (d : PyData), Rv K loc H w v → toN mem n w = some d → Dp K H v d := by
  intro n
  induction n with
  | zero => intro w v d r e; cases e
  | succ n ih =>
    intro w v d r e
    unfold toN at e
    cases r with
    | non => cases e; exact .non
    | bl b => cases e; exact .bl b
    | int b => cases e; exact .int b
    | str b => cases e; exact .str b
    | ty b => cases e
    | ob b => cases e
    | ex0 _ _ => cases e
    | ex1 _ _ _ _ => cases e
    | @tup ws a vs h r =>
      dsimp only at e
      cases h1 : ws.mapM (toN mem n) with
      | none => rw [h1] at e; cases e
      | some ds => rw [h1] at e; cases e; exact .tup h (rvs_dpN ih r h1)
    | @rol ws a vs h r =>
      dsimp only at e
      cases h1 : ws.mapM (toN mem n) with
      | none => rw [h1] at e; cases e
      | some ds => rw [h1] at e; cases e; exact .lst h.sq (rvs_dpN ih r h1)
    | @loc i a h =>
      dsimp only at e
      cases el : listAt mem i with
      | none => rw [el] at e; cases e
      | some xs =>
        rw [el] at e
        dsimp only [Option.bind] at e
        cases h1 : xs.mapM (toN mem n) with
        | none => rw [h1] at e; cases e
        | some ds =>
          rw [h1] at e
          cases e
          obtain ⟨vs, h2, h3⟩ := rs_list rs el h
          exact .lst (SqL.of h2) (rvs_dpN ih h3 h1)
theorem rvm_dp {K : PySem.W.Frag} {mem : Mem} {loc : Locs} {H : Hp} {w : W} {v : V} {d : PyData} (rs : Rs K mem loc H) (r : Rv K loc H w v) (e : toM mem w = some d) : Dp K H v d := rv_dpN rs 65 w v d r e
def eqvM (mem : Mem) (x y : W) : Option Bool := match toM mem x, toM mem y with
  | some d, some e => if (SeqAt.shaped d && SeqAt.shaped e) = true then some (PyData.eqv d e) else none
  | _, _ => none
def eqV : Op2 := fun x y mem => (eqvM mem x y).map fun b => (.bl b, mem)
def neV : Op2 := fun x y mem => (eqvM mem x y).map fun b => (.bl (!b), mem)
theorem eqvM_ok {mem : Mem} {x y : W} {b : Bool} (h : eqvM mem x y = some b) : ∃ d e, toM mem x = some d ∧ toM mem y = some e ∧ SeqAt.shaped d = true ∧ SeqAt.shaped e = true ∧ b = PyData.eqv d e := by
  unfold eqvM at h
  split at h
  · rename_i d e h1 h2
    by_cases hs : (SeqAt.shaped d && SeqAt.shaped e) = true
    · rw [if_pos hs] at h
      cases h
      exact ⟨d, e, h1, h2, (Bool.and_eq_true_iff.mp hs).1, (Bool.and_eq_true_iff.mp hs).2, rfl⟩
    · rw [if_neg hs] at h; cases h
  · cases h
theorem o_eq (hu : X.A.units + 64 < cLine) : OpR X (compareOp .Eq) (opP X.K eqV) := opR_of (op_eqD hu) fun wx wy mem loc H x y w mem' Q rs r1 r2 e q => by
  unfold eqV at e
  cases h : eqvM mem wx wy with
  | none => rw [h] at e; cases e
  | some b =>
    rw [h] at e
    cases e
    obtain ⟨d, e, h1, h2, s1, s2, rfl⟩ := eqvM_ok h
    exact ⟨d, e, rvm_dp rs r1 h1, rvm_dp rs r2 h2, s1, s2, q.flat rs rfl⟩
theorem o_ne (hu : X.A.units + 64 < cLine) : OpR X (compareOp .NotEq) (opP X.K neV) := opR_of (op_neD hu) fun wx wy mem loc H x y w mem' Q rs r1 r2 e q => by
  unfold neV at e
  cases h : eqvM mem wx wy with
  | none => rw [h] at e; cases e
  | some b =>
    rw [h] at e
    cases e
    obtain ⟨d, e, h1, h2, s1, s2, rfl⟩ := eqvM_ok h
    exact ⟨d, e, rvm_dp rs r1 h1, rvm_dp rs r2 h2, s1, s2, q.flat rs rfl⟩
def isNone : W → Bool
  | .non => true
  | _ => false
def isV : Op2 := fun x y mem => match y with
  | .non => some (.bl (isNone x), mem)
  | _ => none
theorem isNone_rv {K : PySem.W.Frag} {loc : Locs} {H : Hp} {w : W} {v : V} (r : Rv K loc H w v) : isNone w = decide (v = .non) := by
  cases r <;> rfl
theorem o_is : OpR X (compareOp .Is) (opP X.K isV) := opR_of op_isN fun wx wy mem loc H x y w mem' Q rs r1 r2 e q => by
  cases wy with
  | non => cases e; cases r2; refine ⟨rfl, ?_⟩; rw [← isNone_rv r1]; exact q.flat rs rfl
  | _ => cases e
end
end Sh
set_option linter.all false
set_option maxRecDepth 100000
set_option maxHeartbeats 4000000
namespace Sh
open PySem PySem.Spec PyProof.Rows L2
def itemsOf (mem : Mem) : W → Option (List W)
  | .tup xs => some xs
  | .rol xs => some xs
  | .loc n => listAt mem n
  | _ => none
section
variable {X : Cx}
theorem atI_rv {K : PySem.W.Frag} {loc : Locs} {H : Hp} {ws : List W} {vs : List V} {i : Int} {w : W} (r : Rvs K loc H ws vs) (h : atI ws i = some w) : ∃ v, atI vs i = some v ∧ Rv K loc H w v := by
  unfold atI at h ⊢
  rw [← r.length]
  cases e : ixN ws.length i with
  | none => rw [e] at h; cases h
  | some j =>
    rw [e] at h
    exact r.get h
def ixV : Op2 := fun x y mem => match x, y with
  | .str z, .int i => if z.length ≤ sizeLine then (atI z.cps.toList i).map fun c => (.str ⟨#[c]⟩, mem) else none
  | .tup xs, .int i => (atI xs i).map fun w => (w, mem)
  | .rol xs, .int i => (atI xs i).map fun w => (w, mem)
  | .loc n, .int i => (listAt mem n).bind fun xs => (atI xs i).map fun w => (w, mem)
  | _, _ => none
theorem o_ix : IxR X (opP X.K ixV) := ixR_of ix_seq fun wx wy mem loc H x y w mem' Q rs r1 r2 e q => by
  cases r2 with
  | int i =>
    unfold ixV at e
    cases r1 with
    | str z =>
      dsimp only at e
      by_cases hz : z.length ≤ sizeLine
      · rw [if_pos hz] at e
        cases h : atI z.cps.toList i with
        | none => rw [h] at e; cases e
        | some c => rw [h] at e; cases e; exact .inr (.inr ⟨z, i, c, rfl, rfl, hz, h, q.flat rs rfl⟩)
      · rw [if_neg hz] at e; cases e
    | @tup xs a vs h1 h2 =>
      dsimp only at e
      cases h : atI xs i with
      | none => rw [h] at e; cases e
      | some z =>
        rw [h] at e
        cases e
        obtain ⟨v, hv, rv⟩ := atI_rv h2 h
        exact .inr (.inl ⟨a, vs, i, v, rfl, rfl, h1, hv, q v H loc Ext.refl rs rv⟩)
    | @rol xs a vs h1 h2 =>
      dsimp only at e
      cases h : atI xs i with
      | none => rw [h] at e; cases e
      | some z =>
        rw [h] at e
        cases e
        obtain ⟨v, hv, rv⟩ := atI_rv h2 h
        exact .inl ⟨a, vs, i, v, rfl, rfl, h1.sq, hv, q v H loc Ext.refl rs rv⟩
    | @loc n a h1 =>
      dsimp only at e
      cases hl : listAt mem n with
      | none => rw [hl] at e; cases e
      | some xs =>
        rw [hl] at e
        dsimp only [Option.bind] at e
        cases h : atI xs i with
        | none => rw [h] at e; cases e
        | some z =>
          rw [h] at e
          cases e
          obtain ⟨vs, h2, h3⟩ := rs_list rs hl h1
          obtain ⟨v, hv, rv⟩ := atI_rv h3 h
          exact .inl ⟨a, vs, i, v, rfl, rfl, SqL.of h2, hv, q v H loc Ext.refl rs rv⟩
    | _ => cases e
  | _ => cases wx <;> cases e
def cutW (xs : List W) (lo hi : Option Int) : List W := (xs.drop (HT.sIx xs.length 0 lo)).take (HT.sIx xs.length xs.length hi - HT.sIx xs.length 0 lo)
theorem cut_rv {K : PySem.W.Frag} {loc : Locs} {H : Hp} {ws : List W} {vs : List V} (r : Rvs K loc H ws vs) (lo hi : Option Int) : Rvs K loc H (cutW ws lo hi) (cutV vs lo hi) := by
  unfold cutW cutV
  rw [r.length]
  exact (r.drop _).take _
def slV (lo hi : Option Int) : Op1 := fun x mem => match x with
  | .tup xs => some (.tup (cutW xs lo hi), mem)
  | .rol xs => some (.loc mem.length, mem ++ [.lst (cutW xs lo hi)])
  | .loc n => (listAt mem n).map fun xs => (.loc mem.length, mem ++ [.lst (cutW xs lo hi)])
  | .str z => if z.length ≤ sizeLine then some (.str (cutS z lo hi), mem) else none
  | _ => none
def optE : Option EM → VEnv → SM (Option Int)
  | none => fun _ => SM.pure none
  | some m => fun env => SM.bind (m env) fun w => match w with
    | .int i => SM.pure (some i)
    | _ => fun _ => .bad
def sliceE (me : EM) (lo hi : Option EM) : EM := fun env => SM.bind (me env) fun x => SM.bind (optE lo env) fun l => SM.bind (optE hi env) fun h => fun m => lift (slV l h x m)
def denO2 (K : PySem.W.Frag) (W' : WX) (m : VEnv → SM (Option Int)) : TO := fun σ H Q => ∃ env mem loc, REnv K loc H env σ ∧ Rs K mem loc H ∧ (m env mem).Post (fun o mem' => ∀ H' loc', Ext loc H loc' H' → Rs K mem' loc' H' → Q o H') (exQ K W' σ loc H)
def SOp (X : Cx) (W' : WX) (e : Option Expr) (m : Option EM) : Prop := PO X e (denO2 X.K W' (optE m))
theorem po_imp {e : Option Expr} {t t' : TO} (h : PO X e t) (i : ∀ σ H Q, t' σ H Q → t σ H Q) : PO X e t' := ⟨fun pins s σ H Q I q => h.run pins s σ H Q I (i σ H Q q)⟩
variable {W' : WX} {pos p2 : Pos} {e : Expr} {me : EM}
theorem sp_none : SOp X W' none none := po_imp po_none fun σ H Q ⟨env, mem, loc, re, rs, h⟩ => h H loc Ext.refl rs
theorem sp_some (h : SE X W' e me) : SOp X W' (some e) (some me) := po_imp (po_some h) fun σ H Q ⟨env, mem, loc, re, rs, h⟩ => by
  refine denE_then (k := fun env w => match w with | .int i => SM.pure (some i) | _ => fun _ => .bad) re rs h fun w mem1 v H1 loc1 e1 rs1 rv1 re1 h1 => ?_
  cases w with
  | int i => cases rv1; exact ⟨i, rfl, h1 H1 loc1 e1 rs1⟩
  | _ => exact h1.elim
def rSl3 (K : PySem.W.Frag) : V → Option Int → Option Int → Hp → VK → Prop := fun x lo hi H Q => rSlA K x lo hi H Q ∨ (rSlL K x lo hi H Q ∨ rSlS x lo hi H Q)
theorem cutV_whole {xs : List W} {lo hi : Option Int} (h : HT.sIx xs.length 0 lo = 0 ∧ HT.sIx xs.length xs.length hi = xs.length) : cutW xs lo hi = xs := by
  unfold cutW
  rw [h.1, h.2, List.drop_zero, Nat.sub_zero, List.take_length]
theorem sl_post {K : PySem.W.Frag} {mem mem' : Mem} {loc : Locs} {H : Hp} {lo hi : Option Int} {wx w : W} {x : V} {Q : VK} (rs : Rs K mem loc H) (r1 : Rv K loc H wx x) (e : slV lo hi wx mem = some (w, mem')) (q : okQ K loc H Q w mem') : rSl3 K x lo hi H Q := by
  cases r1 with
  | @tup xs a vs h1 h2 z1 =>
    cases e
    refine .inl ⟨a, vs, rfl, h1, fun hw => ?_, fun hw p hp => ?_⟩
    · rw [← h2.length] at hw
      rw [cutV_whole hw] at q
      exact q _ H loc Ext.refl rs (.tup h1 h2 z1)
    · exact q _ _ loc (Ext.new hp) (rs.grow hp) (.tup (SqT.of upd_same) ((cut_rv h2 lo hi).mono (Ext.new hp)) fun _ => upd_same)
  | @rol xs a vs h1 h2 =>
    cases e
    refine .inr (.inl ⟨a, vs, rfl, h1.sq, fun p hp => ?_⟩)
    obtain ⟨r1, r2⟩ := rs_newlist rs (cut_rv h2 lo hi) hp
    exact q _ _ _ (Ext.alloc hp) r1 r2
  | @loc n a h1 =>
    unfold slV at e
    dsimp only at e
    cases hl : listAt mem n with
    | none => rw [hl] at e; cases e
    | some xs =>
      rw [hl] at e
      cases e
      obtain ⟨vs, h2, h3⟩ := rs_list rs hl h1
      refine .inr (.inl ⟨a, vs, rfl, SqL.of h2, fun p hp => ?_⟩)
      obtain ⟨r1, r2⟩ := rs_newlist rs (cut_rv h3 lo hi) hp
      exact q _ _ _ (Ext.alloc hp) r1 r2
  | str z =>
    unfold slV at e
    dsimp only at e
    by_cases hz : z.length ≤ sizeLine
    · rw [if_pos hz] at e
      cases e
      exact .inr (.inr ⟨z, rfl, hz, q.flat rs rfl⟩)
    · rw [if_neg hz] at e; cases e
  | _ => cases e
theorem se_slice {lo hi : Option Expr} {ml mh : Option EM} (he : SE X W' e me) (hl : SOp X W' lo ml) (hu : SOp X W' hi mh) : SE X W' (.Subscript e (.Slice lo hi none p2) pos) (sliceE me ml mh) := by
  refine pe_imp (pe_slice (sl_tupA.or (sl_list.or sl_str)) he hl hu) fun σ H Q ⟨env, mem, loc, re, rs, h⟩ => ?_
  refine denE_then (k := fun env x => SM.bind (optE ml env) fun l => SM.bind (optE mh env) fun h => fun m => lift (slV l h x m)) re rs h fun x mem1 v H1 loc1 e1 rs1 rv1 re1 h1 => ?_
  refine ⟨env, mem1, loc1, re1, rs1, (post_bind h1).imp (fun l mem2 h2 H2 loc2 e2 rs2 => ?_) fun _ _ z => z⟩
  refine ⟨env, mem2, loc2, re1.mono e2, rs2, (post_bind h2).imp (fun u mem3 h3 H3 loc3 e3 rs3 => ?_) fun _ _ z => z.mono e2⟩
  obtain ⟨w, mem', e, q⟩ := post_lift h3
  exact sl_post rs3 (rv1.mono (e2.trans e3)) e (q.mono ((e1.trans e2).trans e3))
def lenV : OpN := fun ws mem => match ws with
  | [.str z] => if z.length ≤ sizeLine then some (.int z.length, mem) else none
  | [.tup xs] => some (.int xs.length, mem)
  | [.rol xs] => some (.int xs.length, mem)
  | [.loc n] => (listAt mem n).map fun xs => (.int xs.length, mem)
  | _ => none
theorem c_len : CallR X (.builtin "len") (caP X.K lenV) := callR_of call_len fun ws mem loc H xs w mem' Q rs rv e q => by
  cases rv with
  | nil => cases e
  | @cons w0 v ws vs r1 r2 =>
    cases r2 with
    | cons _ _ => cases w0 <;> cases e
    | nil =>
      cases r1 with
      | str z =>
        unfold lenV at e
        dsimp only at e
        by_cases hz : z.length ≤ sizeLine
        · rw [if_pos hz] at e
          cases e
          exact ⟨_, z.length, rfl, ⟨hz, rfl⟩, q.flat rs rfl⟩
        · rw [if_neg hz] at e; cases e
      | @tup xs a vs h1 h2 => cases e; exact ⟨_, xs.length, rfl, .inr ⟨vs, h1, h2.length⟩, q.flat rs rfl⟩
      | @rol xs a vs h1 h2 => cases e; exact ⟨_, xs.length, rfl, .inl ⟨vs, h1.sq, h2.length⟩, q.flat rs rfl⟩
      | @loc n a h1 =>
        unfold lenV at e
        dsimp only at e
        cases hl : listAt mem n with
        | none => rw [hl] at e; cases e
        | some xs =>
          rw [hl] at e
          cases e
          obtain ⟨vs, h2, h3⟩ := rs_list rs hl h1
          exact ⟨_, xs.length, rfl, .inl ⟨vs, SqL.of h2, h3.length⟩, q.flat rs rfl⟩
      | _ => cases e
def intV : OpN := fun ws mem => match ws with
  | [.int i] => some (.int i, mem)
  | [.bl b] => some (.int (if b then 1 else 0), mem)
  | [.str z] => if z.length ≤ 640 then (PySem.intText? z).map fun n => (.int n, mem) else none
  | _ => none
theorem CallR.or {f : Value} {r r' : List V → Hp → VK → Prop} (h : CallR X f r) (h' : CallR X f r') : CallR X f (fun xs H Q => r xs H Q ∨ r' xs H Q) :=
  fun pins s σ H xs us Q I rv q => q.elim (h pins s σ H xs us Q I rv) (h' pins s σ H xs us Q I rv)
theorem c_int : CallR X (.type "int") (caP X.K intV) := callR_of (CallR.or call_int1 call_int_str) fun ws mem loc H xs w mem' Q rs rv e q => by
  cases rv with
  | nil => cases e
  | @cons w0 v ws vs r1 r2 =>
    cases r2 with
    | cons _ _ => cases w0 <;> cases e
    | nil =>
      cases r1 with
      | int i => cases e; exact .inl (.inl ⟨i, rfl, q.flat rs rfl⟩)
      | bl b => cases e; exact .inl (.inr ⟨b, rfl, q.flat rs rfl⟩)
      | str z =>
        unfold intV at e
        dsimp only at e
        by_cases hz : z.length ≤ 640
        · rw [if_pos hz] at e
          cases hn : PySem.intText? z with
          | none => rw [hn] at e; cases e
          | some n => rw [hn] at e; cases e; exact .inr ⟨z, n, rfl, hn, hz, q.flat rs rfl⟩
        · rw [if_neg hz] at e; cases e
      | _ => cases e
end
end Sh
set_option linter.all false
set_option maxRecDepth 100000
set_option maxHeartbeats 4000000
namespace Sh
open PySem PySem.Spec PyProof.Rows L2
theorem rs_set {K : PySem.W.Frag} {mem : Mem} {loc : Locs} {H : Hp} {n : Nat} {a : Addr} {vs us : List V} {ys zs : List W} (rs : Rs K mem loc H) (hl : listAt mem n = some zs) (ha : loc[n]? = some a) (h : H a = some (.lst vs)) (r : Rvs K loc H ys us) :
    Rs K (mem.set n (.lst ys)) loc (upd H a (.lst us)) ∧ Ext loc H loc (upd H a (.lst us)) :=
  have ew : Ext loc H loc (upd H a (.lst us)) := Ext.wr h trivial
  ⟨rs.write (c := .lst ys) ha h trivial ⟨us, upd_same, r.mono ew⟩ (fun m k z => by rw [listAt_some hl] at z; cases z), ew⟩
abbrev OpM := W → OpN
def chkL (x : W) (m : Mem) : Bool := match x with
  | .loc n => (listAt m n).isSome
  | _ => false
def methE (chk : W → Mem → Bool) (f : OpM) (mo : EM) (as : AM) : EM := fun env => SM.bind (mo env) fun x => fun m => if chk x m = true then (SM.bind (as env) fun xs => fun m => lift (f x xs m)) m else .bad
def mtP (K : PySem.W.Frag) (f : OpM) : V → List V → Hp → VK → Prop := fun x vs H Q => ∃ wx ws mem loc, Rs K mem loc H ∧ Rv K loc H wx x ∧ Rvs K loc H ws vs ∧ ∃ w mem', f wx ws mem = some (w, mem') ∧ okQ K loc H Q w mem'
theorem mtR_of {X : Cx} {id : String} {r : V → List V → Hp → VK → Prop} {f : OpM} (ho : MtR X id r) (h : ∀ wx ws mem loc H x xs w mem' (Q : VK), Rs X.K mem loc H → Rv X.K loc H wx x → Rvs X.K loc H ws xs → f wx ws mem = some (w, mem') → okQ X.K loc H Q w mem' → r x xs H Q) : MtR X id (mtP X.K f) :=
  fun pins s σ H x xs v us Q I rx rv q => by
    obtain ⟨wx, ws, mem, loc, rs, r1, r2, w, mem', e, q⟩ := q
    exact ho pins s σ H x xs v us Q I rx rv (h wx ws mem loc H x xs w mem' Q rs r1 r2 e q)
section
variable {X : Cx} {W' : WX} {o e : Expr} {es : List Expr} {mo : EM} {as : AM} {name : Str} {apos cpos : Pos} {id : String}
theorem se_lm {f : OpM} (slot : Slot "list" name id) (hty : typeOf (.builtin id) = pure (.type "method_descriptor")) (hm : MtR X id (mtP X.K f)) (ho : SE X W' o mo) (ha : SA X W' (e :: es) as)
    (hbase : attributeBase o name X.env (eval o X.env) = eval o X.env := by rfl)
    (hfew : ((backTo cpos (starEach (e :: es) X.env)).all (fun x => !x.1) && (backToKw cpos (keywordEach [] X.env)).all (fun x => x.1.isSome)
      && decide ((e :: es).length + ([] : List Keyword).length + (if ([] : List Keyword).isEmpty then 0 else 1) < 30)) = true := by rfl)
    (hline : (apos.endLine == cpos.line) = true := by rfl) (hs : starEach (e :: es) X.env = (false, eval e X.env) :: starEach es X.env := by rfl) (hplain : (backTo cpos (starEach es X.env)).any (·.1) = false := by rfl) :
    SE X W' (.Call (.Attribute o name apos) (e :: es) [] cpos) (methE chkL f mo as) := by
  refine pe_imp (pe_bm PySem.F.plainAttrs_list slot hty hm ho ha hbase hfew hline hs hplain) fun σ H Q ⟨env, mem, loc, re, rs, h⟩ => ?_
  refine denE_then (k := fun env x => fun m => if chkL x m = true then (SM.bind (as env) fun xs => fun m => lift (f x xs m)) m else .bad) re rs h fun x mem1 v H1 loc1 e1 rs1 rv1 re1 h1 => ?_
  by_cases hc : chkL x mem1 = true
  · rw [if_pos hc] at h1
    refine ⟨?_, env, mem1, loc1, re1, rs1, (post_bind h1).imp (fun ws mem2 h2 vs H2 loc2 e2 rs2 rv2 => ?_) fun _ _ z => z⟩
    · cases x with
      | loc n =>
        obtain ⟨xs, hx⟩ := Option.isSome_iff_exists.mp hc
        cases rv1 with
        | @loc _ a h2 =>
          obtain ⟨us, h3, _⟩ := rs_list rs1 hx h2
          exact Or.inl ⟨rfl, us, SqL.of h3⟩
      | _ => cases hc
    · obtain ⟨w, mem', e, q⟩ := post_lift h2
      exact ⟨x, ws, mem2, loc2, rs2, rv1.mono e2, rv2, w, mem', e, q.mono (e1.trans e2)⟩
  · rw [if_neg hc] at h1
    exact h1.elim
def appendV : OpM := fun x ws mem => match x, ws with
  | .loc n, [w] => (listAt mem n).bind fun xs => if xs.length < sizeLine then some (.non, mem.set n (.lst (xs ++ [w]))) else none
  | _, _ => none
theorem m_append : MtR X "list.append" (mtP X.K appendV) := mtR_of mt_append fun wx ws mem loc H x xs w mem' Q rs r1 r2 e q => by
  unfold appendV at e
  split at e
  · rename_i n w0
    cases r1 with
    | @loc _ a h1 =>
      cases r2 with
      | @cons _ v _ _ r3 r4 =>
        cases r4
        cases hl : listAt mem n with
        | none => rw [hl] at e; cases e
        | some ys =>
          rw [hl] at e
          dsimp only [Option.bind] at e
          by_cases hz : ys.length < sizeLine
          · rw [if_pos hz] at e
            cases e
            obtain ⟨vs, h2, h3⟩ := rs_list rs hl h1
            obtain ⟨rs', ew⟩ := rs_set rs hl h1 h2 (h3.append (.cons r3 .nil))
            exact ⟨a, vs, v, rfl, rfl, h2, by rw [← h3.length]; exact hz, q _ _ _ ew rs' .non⟩
          · rw [if_neg hz] at e; cases e
  · cases e
theorem se_append (ho : SE X W' o mo) (ha : SA X W' [e] as) (hbase : attributeBase o "append" X.env (eval o X.env) = eval o X.env := by rfl)
    (hline : (apos.endLine == cpos.line) = true := by rfl) (hs : starEach (e :: []) X.env = (false, eval e X.env) :: starEach [] X.env := by rfl)
    (hfew : ((backTo cpos (starEach (e :: []) X.env)).all (fun x => !x.1) && (backToKw cpos (keywordEach [] X.env)).all (fun x => x.1.isSome)
      && decide ((e :: []).length + ([] : List Keyword).length + (if ([] : List Keyword).isEmpty then 0 else 1) < 30)) = true := by rfl) : SE X W' (.Call (.Attribute o "append" apos) [e] [] cpos) (methE chkL appendV mo as) :=
  se_lm PySem.F.slot_list_append PySem.F.type_list_append m_append ho ha hbase hfew hline hs rfl
end
abbrev OpSet := W → W → W → Mem → Option Mem
def subG (f : OpSet) (mo mi : EM) : GM := fun w env => SM.bind (mo env) fun o => SM.bind (mi env) fun i => fun m => match f o i w m with
  | some m' => .ok env m'
  | none => .bad
def setP (K : PySem.W.Frag) (f : OpSet) : TSet := fun o i v H Q => ∃ wo wi w mem loc, Rs K mem loc H ∧ Rv K loc H wo o ∧ Rv K loc H wi i ∧ Rv K loc H w v ∧ ∃ mem', f wo wi w mem = some mem' ∧ ∀ H', Ext loc H loc H' → Rs K mem' loc H' → Q H'
def setV : OpSet := fun o i w mem => match o, i with
  | .loc n, .int k => (listAt mem n).bind fun xs => (ixN xs.length k).map fun j => mem.set n (.lst (xs.set j w))
  | _, _ => none
section
variable {X : Cx} {o i : Expr} {mo mi : EM} {pos : Pos}
theorem s_set : PSet X (setP X.K setV) := fun pins s σ H o i v ov iv u Q I ro ri rv q => set_list pins s σ H o i v ov iv u Q I ro ri rv (by
  obtain ⟨wo, wi, w, mem, loc, rs, r1, r2, r3, mem', e, q⟩ := q
  unfold setV at e
  split at e
  · rename_i n k
    cases r1 with
    | @loc _ a h1 =>
      cases r2
      cases hl : listAt mem n with
      | none => rw [hl] at e; cases e
      | some xs =>
        rw [hl] at e
        dsimp only [Option.bind] at e
        cases hk : ixN xs.length k with
        | none => rw [hk] at e; cases e
        | some j =>
          rw [hk] at e
          cases e
          obtain ⟨vs, h2, h3⟩ := rs_list rs hl h1
          obtain ⟨rs', ew⟩ := rs_set rs hl h1 h2 (h3.set r3 j)
          exact ⟨a, vs, k, j, rfl, rfl, h2, by rw [← h3.length]; exact hk, q _ ew rs'⟩
  · cases e)
theorem sg_sub {f : OpSet} (ho : SE X WX0 o mo) (hi : SE X WX0 i mi) (hs : PSet X (setP X.K f))
    (ha : ∀ v, assign (.Subscript o i pos) X.env v = (do
      let ov ← holding [v] (eval o X.env)
      let iv ← holding [v, ov] (eval i X.env)
      standAt pos
      holding [v, ov, iv] (setItem ov iv v)
      release [v, ov, iv] []) := by intro _; rfl) : SG X (.Subscript o i pos) (subG f mo mi) :=
  ⟨fun pins s σ H v u Q I r h => (pg_sub ho hi hs ha).run pins s σ H v u Q I r (by
    obtain ⟨w, env, mem, loc, rv, re, rs, h⟩ := h
    have fix : ∀ {α : Type} {r : Res α} {ok : α → Mem → Prop} {σ' : L2.St} {l : Locs} {H' : Hp}, r.Post ok noX → r.Post ok (exQ X.K WX0 σ' l H') := fun {α r ok σ' l H'} z => z.imp (fun _ _ y => y) fun _ _ y => y.elim
    refine denE_then (k := fun env o => SM.bind (mi env) fun i => fun m => match f o i w m with | some m' => .ok env m' | none => .bad) re rs (fix h) fun o mem1 vo H1 loc1 e1 rs1 rv1 re1 h1 => ?_
    refine denE_then (k := fun env i => fun m => match f o i w m with | some m' => .ok env m' | none => .bad) re1 rs1 h1 fun i mem2 vi H2 loc2 e2 rs2 rv2 re2 h2 => ?_
    cases ef : f o i w mem2 with
    | none => rw [ef] at h2; exact h2.elim
    | some m' =>
      rw [ef] at h2
      exact ⟨o, i, w, mem2, loc2, rs2, rv1.mono e2, rv2, rv.mono (e1.trans e2), m', ef, fun H' e3 rs3 => h2 σ H' loc2 ((e1.trans e2).trans e3) rs3 (re2.mono e3)⟩)⟩
end
def seqG (n : Nat) (g : GMs) : GM := fun w env mem => match itemsOf mem w with
  | some ws => if ws.length = n then g ws env mem else .bad
  | none => .bad
theorem PG.or {X : Cx} {tg : Expr} {t t' : TG} (h : PG X tg t) (h' : PG X tg t') : PG X tg (fun v σ H Q => t v σ H Q ∨ t' v σ H Q) :=
  ⟨fun pins s σ H v u Q I r q => q.elim (h.run pins s σ H v u Q I r) (h'.run pins s σ H v u Q I r)⟩
def tyName (mem : Mem) : W → Option String
  | .non => some "NoneType" | .bl _ => some "bool" | .int _ => some "int" | .str _ => some "str" | .tup _ => some "tuple" | .rol _ => some "list"
  | .loc n => match mem[n]? with
    | some (.lst _) => some "list"
    | some (.dK _) => some "dict"
    | some (.dT _) => some "dict"
    | some (.fT _) => none
    | some (.dL _) => none
    | some (.opq _ _) => none
    | none => none
  | _ => none
/-- the answers that are asked for -/
def kind (a b : String) : Option Bool :=
  if ["NoneType", "bool", "int", "str", "tuple", "list", "dict"].contains a && ["bool", "int", "str", "tuple", "list"].contains b then some (a == b || (a == "bool" && b == "int")) else none
theorem kind_ok {K : PySem.W.Frag} {a b : String} {r : Bool} (h : kind a b = some r) : PySem.W.kitOne K (.type a) (.type b) = some r := by
  unfold kind at h
  split at h
  · rename_i hc
    have ha : a ∈ ["NoneType", "bool", "int", "str", "tuple", "list", "dict"] := by
      have := (Bool.and_eq_true_iff.mp hc).1
      simpa using this
    have hb : b ∈ ["bool", "int", "str", "tuple", "list"] := by
      have := (Bool.and_eq_true_iff.mp hc).2
      simpa using this
    have key : ∀ a ∈ ["NoneType", "bool", "int", "str", "tuple", "list", "dict"], ∀ b ∈ ["bool", "int", "str", "tuple", "list"], kitB a b = some (a == b || (a == "bool" && b == "int")) := by decide +kernel
    exact kit_ty (by rw [key a ha b hb]; exact h)
  · cases h
def isiV : OpN := fun ws mem => match ws with
  | [x, .ty n] => (tyName mem x).bind fun a => (kind a n).map fun b => (.bl b, mem)
  | [x, .tup [.ty n, .ty m]] => (tyName mem x).bind fun a => (kind a n).bind fun b => (kind a m).map fun c => (.bl (b || c), mem)
  | _ => none
theorem ty_rv {K : PySem.W.Frag} {mem : Mem} {loc : Locs} {H : Hp} {w : W} {v : V} {a : String} (rs : Rs K mem loc H) (r : Rv K loc H w v) (h : tyName mem w = some a) : TyX K H v (.type a) := by
  cases r with
  | non => cases h; exact .base .non
  | bl b => cases h; exact .base (.bl b)
  | int i => cases h; exact .base (.int i)
  | str x => cases h; exact .base (.str x)
  | @tup ws p vs h1 h2 =>
    cases h
    rcases h1 with (h1 | ⟨o, h1⟩) | ⟨o, its, n, h1, h3, _⟩
    · exact .base (.tup h1)
    · exact .fTuple h1
    · exact .kTuple h1 h3
  | @rol ws p vs h1 h2 =>
    cases h
    rcases h1 with ⟨o, h1⟩ | h1
    · exact .base (.frz h1)
    · rcases h1 (fun _ => none) with (h1 | ⟨o, h1⟩) | ⟨o, its, n, h1, h3, _⟩
      · cases h1
      · cases h1
      · exact .kList h1 h3
  | ty n => cases h
  | ob n => cases h
  | ex0 _ _ => cases h
  | ex1 _ _ _ _ => cases h
  | @loc n p h1 =>
    unfold tyName at h
    dsimp only at h
    cases hm : mem[n]? with
    | none => rw [hm] at h; cases h
    | some c =>
      rw [hm] at h
      obtain ⟨q, hq, rc⟩ := rs.cell n c hm
      rw [h1] at hq
      cases hq
      cases c with
      | lst xs => cases h; obtain ⟨vs, h2, _⟩ := rc; exact .base (.lst h2)
      | dK xs => cases h; obtain ⟨vs, h2, _⟩ := rc; exact .base (.dK h2)
      | dT xs => cases h; obtain ⟨vs, h2, _⟩ := rc; exact .base (.dT h2)
      | fT xs => cases h
      | dL xs => cases h
      | opq m k => cases h
/-- a tuple of classes that was laid on the way -/
def rIsi2 (K : PySem.W.Frag) : List V → Hp → VK → Prop := fun xs H Q => rIsi K xs H Q ∨ ∃ (x : V) (tp : Addr) (t : Value) (n m : String) (b c : Bool), xs = [x, .ref tp] ∧ SqT K H tp [.ty n, .ty m] ∧ TyX K H x t ∧ PySem.W.kitOne K t (.type n) = some b ∧ PySem.W.kitOne K t (.type m) = some c ∧ Q (.bl (b || c)) H
section
variable {X : Cx}
theorem kit_two {K : PySem.W.Frag} {t : Value} {n m : String} {b c : Bool} (h1 : PySem.W.kitOne K t (.type n) = some b) (h2 : PySem.W.kitOne K t (.type m) = some c) : PySem.W.kitAny K t [.type n, .type m] = some (b || c) :=
  kitAny_cons h1 (fun e => by subst e; exact kitAny_cons h2 (fun e => by subst e; exact kitAny_nil) (fun e => by subst e; rfl)) fun e => by subst e; rfl
theorem call_isi2 : CallR X (.builtin "isinstance") (rIsi2 X.K) := fun pins s σ H xs us Q I r h => by
  rcases h with h | ⟨x, tp, t, n, m, b, c, rfl, hT, ty, h1, h2, q⟩
  · exact call_isi pins s σ H xs us Q I r h
  · obtain ⟨u1, u2, rfl, r1, r2⟩ := vals2 r
    cases (show u2 = Value.ref tp from r2)
    obtain ⟨P, Z, p, hx⟩ := kit_of I r1 ty
    obtain ⟨its, rv, ht, hz⟩ := I.tuple hT
    obtain ⟨⟨oc, od, dt, sl⟩, e1, e2, k, e3⟩ := id ht
    simp only at e2 e3
    subst e2 e3
    have hu : its = [.type n, .type m] := by
      obtain ⟨a, b, rfl, q1, q2⟩ := rv.two
      rw [show a = Value.type n from q1, show b = Value.type m from q2]
    subst hu
    exact PySem.W.kia_tup Z I.kIn p e1 (kit_two h1 h2) hx fun tk => ⟨.bl _, H, I.tok tk, rfl, q⟩
theorem c_isi : CallR X (.builtin "isinstance") (caP X.K isiV) := callR_of call_isi2 fun ws mem loc H xs w mem' Q rs rv e q => by
  unfold isiV at e
  split at e
  · rename_i x n
    cases rv with
    | cons r1 r2 =>
      cases r2 with
      | cons r3 r4 =>
        cases r4
        cases r3
        cases ht : tyName mem x with
        | none => rw [ht] at e; cases e
        | some a =>
          rw [ht] at e
          dsimp only [Option.bind] at e
          cases hk : kind a n with
          | none => rw [hk] at e; cases e
          | some b =>
            rw [hk] at e
            cases e
            exact .inl ⟨_, .ty n, _, _, b, rfl, .ty n, ty_rv rs r1 ht, kind_ok hk, q.flat rs rfl⟩
  · rename_i x n m
    cases rv with
    | cons r1 r2 =>
      cases r2 with
      | cons r3 r4 =>
        cases r4
        cases r3 with
        | @tup _ tp vs h1 h2 =>
          cases h2 with
          | cons r5 r6 =>
            cases r6 with
            | cons r7 r8 =>
              cases r8
              cases r5
              cases r7
              cases ht : tyName mem x with
              | none => rw [ht] at e; cases e
              | some a =>
                rw [ht] at e
                dsimp only [Option.bind] at e
                cases hk : kind a n with
                | none => rw [hk] at e; cases e
                | some b =>
                  rw [hk] at e
                  dsimp only at e
                  cases hk2 : kind a m with
                  | none => rw [hk2] at e; cases e
                  | some c =>
                    rw [hk2] at e
                    cases e
                    exact .inr ⟨_, tp, _, n, m, b, c, rfl, h1, ty_rv rs r1 ht, kind_ok hk, kind_ok hk2, q.flat rs rfl⟩
  · cases e
variable {W' : WX} {pos : Pos}
/-- the name of a built-in class, as a value -/
theorem se_ty {x : Str} {n : String} (hg : Gl X x) (hm : X.mg x = none) (hv : bootBuiltins x = some (.type n)) (hn : x ≠ "__name__" := by decide) (hd : (x == ("__debug__" : Str)) = false := by decide) : SE X W' (.Name x pos) (cE (.ty n)) :=
  se_const _ (pe_bltn (v := .ty n) hg hm hv rfl hn hd) fun _ _ => .ty n
end
end Sh
set_option linter.all false
set_option maxRecDepth 100000
set_option maxHeartbeats 4000000
namespace Sh
open PySem PySem.Spec PyProof.Rows L2
/-- a def stands at its name -/
structure DefAt (K : PySem.W.Frag) (mg : Str → Option Value) (x : Str) (st : Stmt) (ps : List Str) : Prop where
  ex : ∃ f fd, Fun K x x st f fd ∧ mg x = some (.ref f) ∧ Binds K fd ps []
def Lk (K : PySem.W.Frag) (f : Addr) (fd : FuncData) : Prop := ∃ (oc : Value) (od : Option Addr) (osl : Array (Option Value)), K.lookup f = some ⟨oc, od, .func fd, osl⟩
/-- the def of that name does F, at most k calls deep -/
structure GFn (P : Program) (w : World) (K : PySem.W.Frag) (mg : Str → Option Value) (base : Heap) (k : Nat) (x : Str) (ps : List Str) (F : Fn) : Prop where
  ex : ∃ f fd, FnS P w K mg base k f fd ps F ∧ mg x = some (.ref f) ∧ PySem.W.keepIn K (.ref f) = true ∧ Binds K fd ps [] ∧ Lk K f fd
/-- a value of the module -/
structure GVal (K : PySem.W.Frag) (mg : Str → Option Value) (x : Str) (w : W) : Prop where
  ex : ∃ u v, mg x = some u ∧ RelV v u ∧ ∀ (loc : Locs) (H : Hp), Rv K loc H w v
section
variable {P : Program} {w : World} {K : PySem.W.Frag} {mg : Str → Option Value} {base : Heap}
theorem GFn.mono {j k : Nat} {x : Str} {ps : List Str} {F : Fn} (h : GFn P w K mg base j x ps F) (l : j ≤ k) : GFn P w K mg base k x ps F := by
  obtain ⟨f, fd, h1, h2, h3, h4, h5⟩ := h.ex
  exact ⟨f, fd, h1.mono l, h2, h3, h4, h5⟩
/-- another answer, at least as good -/
theorem GFn.sub {k : Nat} {x : Str} {ps : List Str} {F F' : Fn} (h : GFn P w K mg base k x ps F) (i : ∀ ws mem, F' ws mem = .bad ∨ F' ws mem = F ws mem) : GFn P w K mg base k x ps F' := by
  obtain ⟨f, fd, h1, h2, h3, h4, h5⟩ := h.ex
  exact ⟨f, fd, h1.imp i, h2, h3, h4, h5⟩
theorem GFn.none {k : Nat} {x : Str} {st : Stmt} {ps : List Str} (D : DefAt K mg x st ps) : GFn P w K mg base k x ps (fun _ _ => .bad) := by
  obtain ⟨f, fd, F, hm, hb⟩ := D.ex
  obtain ⟨oc, od, _, _, _, _, _, _, osl, _, lk, _⟩ := F.ex
  exact ⟨f, fd, FnS.bad, hm, F.kp, hb, oc, od, osl, lk⟩
theorem g_def {x : Str} {st : Stmt} {N ps : List Str} {k : Nat} {s : SS} (D : DefAt K mg x st ps) (S : FnScope N ps (defScope st))
    (hbody : ∀ (f : Addr) (cdv : Value) (A : Around) (outer : List Env) (s0 : Shared) (H : Hp) (E : XK), Room k (A.deeper (envOfC x (defScope st) s0.heap.objs.size f cdv)) →
      SBl (cxOf (L2.CX P w) P w K mg base N x (defScope st) f cdv A outer s0 H E) (fun cls d _ H => E cls d H) (defBody st) s) :
    GFn P w K mg base (k + 1) x ps (runB N.length s) := by
  obtain ⟨f, fd, F, hm, hb⟩ := D.ex
  obtain ⟨oc, od, _, _, _, _, _, _, osl, _, lk, _⟩ := id F.ex
  exact ⟨f, fd, fn_ok F S (hbody f), hm, F.kp, hb, oc, od, osl, lk⟩
end
section
variable {X : Cx} {W' : WX} {k : Nat} {ps : List Str} {F : Fn} {x : Str} {p pos : Pos} {e : Expr} {es : List Expr} {as : AM}
theorem se_g (G : GFn X.prog X.w X.K X.mg X.base k x ps F) (hr : Room k X.A) (hg : Gl X x) (tk : Takes X W') (ha : SA X W' (e :: es) as) (hn : NArgs ps.length as) (hdb : (x == ("__debug__" : Str)) = false := by decide)
    (he : starEach (e :: es) X.env = (false, eval e X.env) :: starEach es X.env := by rfl) (hpl : (backTo pos (starEach es X.env)).any (·.1) = false := by rfl) : SE X W' (.Call (.Name x p) (e :: es) [] pos) (callF F as) := by
  obtain ⟨f, fd, h1, h2, h3, h4, _⟩ := G.ex
  exact se_call h1 hr hg h2 h3 h4 tk ha hn hdb he hpl
theorem se_gv {v : W} (G : GVal X.K X.mg x v) (hg : Gl X x) (hd : (x == ("__debug__" : Str)) = false := by decide) : SE X W' (.Name x pos) (cE v) := by
  obtain ⟨u, v', h1, h2, h3⟩ := G.ex
  exact se_const _ (pe_glob hg h1 h2 hd) h3
def SK (X : Cx) (W' : WX) (kws : List Keyword) (m : AM) : Prop := PK X kws (denA X.K W' m)
theorem pk_imp {kws : List Keyword} {t t' : TA} (h : PK X kws t) (i : ∀ σ H Q, t' σ H Q → t σ H Q) : PK X kws t' := ⟨fun p pins s σ H Q I q => h.run p pins s σ H Q I (i σ H Q q)⟩
theorem sk_nil : SK X W' [] nilA := pk_imp pk_nil fun σ H Q ⟨env, mem, loc, re, rs, h⟩ => h [] H loc Ext.refl rs .nil
theorem sk_cons {nm : Option Str} {kpos : Pos} {kws : List Keyword} {ma : EM} (ha : SE X W' e ma) (hr : SK X W' kws as) : SK X W' (⟨nm, e, kpos⟩ :: kws) (consA ma as) := by
  refine pk_imp (pk_cons ha hr) fun σ H Q h => ?_
  obtain ⟨env, mem, loc, re, rs, h⟩ := h
  refine denE_then (k := fun env x => SM.bind (as env) fun xs => SM.pure (x :: xs)) re rs h fun x mem1 v H1 loc1 e1 rs1 rv1 re1 h1 => ?_
  refine denA_then (k := fun env xs => SM.pure (x :: xs)) re1 rs1 h1 fun xs mem2 vs H2 loc2 e2 rs2 rv2 re2 h2 => ?_
  exact h2 _ H2 loc2 (e1.trans e2) rs2 (.cons (rv1.mono e2) rv2)
end
section
variable {X : Cx} {W' : WX} {pos : Pos} {a b c : Expr} {ma mb mc : EM}
def chainE (f g : Op2) (ma mb mc : EM) : EM := fun env => SM.bind (ma env) fun x => SM.bind (mb env) fun y => SM.bind (fun m => lift (f x y m)) fun z => match isB z with
  | some true => SM.bind (mc env) fun w => fun m => lift (g y w m)
  | some false => SM.pure (.bl false)
  | none => fun _ => .bad
variable {op op' : CmpOp} {f g : Op2}
def parS (i j : Nat) (as : AM) : SS := ofE as fun ws env mem => match ws with
  | [v, w] => .nx ((env.set i (some v)).set j (some w)) mem
  | _ => .bad
def augS (i : Nat) (f : Op2) (m : EM) : SS := ofE (bin f (varE i) m) fun w env mem => .nx (env.set i (some w)) mem
def rgW (n : Int) : List W := (List.range n.toNat).map fun i => W.int ((i : Nat) : Int)
def lrE (m : EM) : EM := fun env => SM.bind (m env) fun w mem => match w with
  | .int n => if 0 ≤ n ∧ n ≤ 16777216 then .ok (.loc mem.length) (mem ++ [.lst (rgW n)]) else .bad
  | _ => .bad
theorem rvs_ints {K : PySem.W.Frag} {loc : Locs} {H : Hp} : ∀ (ns : List Int), Rvs K loc H (ns.map W.int) (ns.map V.int)
  | [] => .nil
  | n :: ns => .cons (.int n) (rvs_ints ns)
end
end Sh
set_option linter.all false
set_option maxRecDepth 100000
set_option maxHeartbeats 4000000
set_option linter.all false
set_option maxRecDepth 100000
set_option maxHeartbeats 4000000
namespace Sh
open PySem PySem.Spec PyProof.Rows L2
section
variable {K : PySem.W.Frag} {h : Heap} {mg : Str → Option Value}
theorem at_none {x : Str} (X : K.In h) (G : h.Ns mainGlobals mg) (e : PySem.W.nsIn K mainGlobals x = some none) : mg x = none := PySem.W.mg_none_of X G e
theorem at_def {x : Str} {st : Stmt} {ps : List Str} {f : Addr} {oc : Value} {od an : Option Addr} {osl : Array (Option Value)} {kV doc pm cdv ct : Value} (X : K.In h) (G : h.Ns mainGlobals mg)
    (e : PySem.W.nsIn K mainGlobals x = some (some (.ref f))) (l : K.lookup f = some ⟨oc, od, .func (PySem.W.fnOf x x (defArgs st) (defBody st) (defScope st) .none kV doc pm an cdv ct), osl⟩)
    (c : PySem.W.codeIn K cdv x = true) (k : PySem.W.keepIn K (.ref f) = true)
    (b : ∀ (kV doc pm : Value) (an : Option Addr) (cdv ct : Value) (us : List Value), us.length = ps.length → bindArgs (PySem.W.fnOf x x (defArgs st) (defBody st) (defScope st) .none kV doc pm an cdv ct) ⟨us, []⟩ = pure (ps.zip us)) : DefAt K mg x st ps :=
  have F := fun_mk (st := st) l c k
  ⟨f, _, F, PySem.W.mg_of X G e, F.binds b⟩
end
/-- the law's call, from the computation that it does -/
theorem law_walk {l : PySem.W.OpenLaw} {q : Program} {loose : List Str} {XP : (Str → Option Value) → Heap → Prop} {YP : World → Heap → Prop} {d : DefRec} {K : Params → PySem.W.Frag} {k : Nat} {F : Fn} (hn : l.most = some 63) (hdf : d.params.defaults = []) (hr : Room k callerA)
    (hY : ∀ (w : World) (h : Heap), YP w h → (K w.params).In h) (hd : d.name = "law")
    (hF : ∀ (w : World) (mg : Str → Option Value) (h : Heap), (K w.params).In h → h.Ns mainGlobals mg → (∃ st, DefAt (K w.params) mg "law" st ["script"] ∧ ∀ (kV doc pm : Value) (an : Option Addr) (cdv ct u : Value), bindArgs (PySem.W.fnOf "law" "law" (defArgs st) (defBody st) (defScope st) .none kV doc pm an cdv ct) ⟨[u], []⟩ = pure [(("script" : Str), u)]) ∧ ∀ base : Heap, (K w.params).In base → base.Ns mainGlobals mg → GFn l.prog w (K w.params) mg base k "law" ["script"] F)
    (hlaw : ∀ ns : List Int, ns.length ≤ 63 → ∃ m, F [.rol (ns.map W.int)] [] = .ok (.bl true) m) :
    PySem.W.WalkO q loose XP YP l.row.toRowW d [] (fun f vs => PySem.call f vs) := by
  refine L2.walk_of (n := 63) (k := k) (x := "script") (CX := fun w => L2.CX l.prog w) (sp := fun w => spS (K w.params) 1 F) hn (by decide) hdf hr hY (fun w mg fa h X G hfa => ?_) (fun w H a ns hl hO hS => ?_) fun w H s e s' z => ?_
  · obtain ⟨⟨st, D, bl⟩, hg⟩ := hF w mg h X G
    obtain ⟨f, fd, Fu, hm, hb⟩ := D.ex
    rw [hd, hm] at hfa
    cases hfa
    obtain ⟨oc, od, kV, doc, pm, an, cdv, ct, osl, efd, lk, _⟩ := id Fu.ex
    refine ⟨fd, fun s u => ?_, fun base B N => ?_⟩
    · subst efd
      exact .of_eq (bl kV doc pm an cdv ct u)
    · obtain ⟨f', fd', h1, h2, _, _, _, _, _, lk2⟩ := (hg base B N).ex
      rw [hm] at h2
      cases h2
      rw [lk] at lk2
      cases lk2
      exact h1
  · obtain ⟨m, e⟩ := hlaw ns hl
    refine ⟨rfl, [.rol (ns.map W.int)], [], [], .cons (.rol ?_ (rvs_ints ns)) .nil, ⟨rfl, List.nodup_nil, fun i c h => by simp at h, fun n kls h => by simp at h⟩, ?_⟩
    · rcases hS with (h | ⟨o, h⟩) | h
      · rcases hO a with z | ⟨o, xs, z⟩
        · rw [h] at z; cases z
        · rw [h] at z; cases z
      · exact .inl ⟨o, h⟩
      · exact .inr fun H' => .inr h
    · rw [e]
      intro v H' loc' _ _ r
      cases r
      rfl
  · obtain ⟨_, _, _, _, _, _, _, _, _, _, _, _, z⟩ := z
    exact z
end Sh
set_option linter.all false
set_option maxRecDepth 100000
set_option maxHeartbeats 4000000
namespace Sh
open PySem PySem.Spec PyProof.Rows L2
section
variable {α β : Type} {Q : α → Mem → Prop} {ex : Exc → Mem → Prop} {mem : Mem} {env : VEnv}
@[simp] theorem wp_ok {a : α} {m : Mem} : (Res.ok a m).Post Q ex = Q a m := rfl
@[simp] theorem wp_bad : (Res.bad : Res α).Post Q ex = False := rfl
@[simp] theorem wp_exc {x : Exc} {m : Mem} : (Res.exc x m : Res α).Post Q ex = ex x m := rfl
@[simp] theorem wp_pure {a : α} : (SM.pure a mem).Post Q ex = Q a mem := rfl
@[simp] theorem wp_bind {x : SM β} {f : β → SM α} : (SM.bind x f mem).Post Q ex = (x mem).Post (fun a m => (f a m).Post Q ex) ex := by
  unfold SM.bind
  cases x mem <;> rfl
@[simp] theorem wp_lift {a : α} {m : Mem} : (lift (some (a, m))).Post Q ex = Q a m := rfl
@[simp] theorem wp_lift0 : (lift (none : Option (α × Mem))).Post Q ex = False := rfl
end
section
variable {Q : W → Mem → Prop} {ex : Exc → Mem → Prop} {mem : Mem} {env : VEnv} {ma mb mc : EM} {as : AM}
@[simp] theorem wp_var {i : Nat} : (varE i env mem).Post Q ex = (match env[i]? with | some (some w) => Q w mem | _ => False) := by
  unfold varE
  cases env[i]? with
  | none => rfl
  | some o => cases o <;> rfl
@[simp] theorem wp_c {w : W} : (cE w env mem).Post Q ex = Q w mem := rfl
@[simp] theorem wp_bin {f : Op2} : (bin f ma mb env mem).Post Q ex = (ma env mem).Post (fun x m => (mb env m).Post (fun y m => (lift (f x y m)).Post Q ex) ex) ex := by
  unfold bin
  simp
@[simp] theorem wp_un {f : Op1} : (un f ma env mem).Post Q ex = (ma env mem).Post (fun x m => (lift (f x m)).Post Q ex) ex := by
  unfold un
  simp
@[simp] theorem wp_callN {f : OpN} : (callN f as env mem).Post Q ex = (as env mem).Post (fun xs m => (lift (f xs m)).Post Q ex) ex := by
  unfold callN
  simp
@[simp] theorem wp_callF {F : Fn} : (callF F as env mem).Post Q ex = (as env mem).Post (fun ws m => (F ws m).Post Q ex) ex := by
  unfold callF
  simp
@[simp] theorem wp_nil {Q : List W → Mem → Prop} : (nilA env mem).Post Q ex = Q [] mem := rfl
@[simp] theorem wp_cons {Q : List W → Mem → Prop} : (consA ma as env mem).Post Q ex = (ma env mem).Post (fun x m => (as env m).Post (fun xs m => Q (x :: xs) m) ex) ex := by
  unfold consA
  simp
@[simp] theorem wp_tup : (tupE as env mem).Post Q ex = (as env mem).Post (fun xs m => xs.length ≤ sizeLine ∧ Q (.tup xs) m) ex := by
  unfold tupE
  rw [wp_bind]
  congr 1
  funext xs m
  by_cases h : xs.length ≤ sizeLine
  · rw [if_pos h]; simp [h]
  · rw [if_neg h]; simp [h]
@[simp] theorem wp_lst : (lstE as env mem).Post Q ex = (as env mem).Post (fun xs m => xs.length ≤ sizeLine ∧ Q (.loc m.length) (m ++ [.lst xs])) ex := by
  unfold lstE
  rw [wp_bind]
  congr 1
  funext xs m
  by_cases h : xs.length ≤ sizeLine
  · rw [if_pos h]; simp [h]
  · rw [if_neg h]; simp [h]
@[simp] theorem wp_boolE {f : W → Option Bool} {yes no : EM} : (boolE f ma yes no env mem).Post Q ex = (ma env mem).Post (fun w m => match f w with | some true => (yes env m).Post Q ex | some false => (no env m).Post Q ex | none => False) ex := by
  unfold boolE
  rw [wp_bind]
  congr 1
  funext w m
  cases f w with
  | none => rfl
  | some b => cases b <;> rfl
@[simp] theorem wp_andV : (andV ma mb env mem).Post Q ex = (ma env mem).Post (fun w m => match isB w with | some true => (mb env m).Post Q ex | some false => Q (.bl false) m | none => False) ex := wp_boolE
@[simp] theorem wp_orV : (orV ma mb env mem).Post Q ex = (ma env mem).Post (fun w m => match isB w with | some true => Q (.bl true) m | some false => (mb env m).Post Q ex | none => False) ex := wp_boolE
@[simp] theorem wp_notV : (notV ma env mem).Post Q ex = (ma env mem).Post (fun w m => match isB w with | some true => Q (.bl false) m | some false => Q (.bl true) m | none => False) ex := wp_boolE
@[simp] theorem wp_ifE {t : BM} : (ifE t ma mb env mem).Post Q ex = (t env mem).Post (fun b m => if b = true then (ma env m).Post Q ex else (mb env m).Post Q ex) ex := by
  unfold ifE
  rw [wp_bind]
  congr 1
  funext b m
  cases b <;> rfl
@[simp] theorem wp_tB {Q : Bool → Mem → Prop} : (tB ma env mem).Post Q ex = (ma env mem).Post (fun w m => match isB w with | some b => Q b m | none => False) ex := by
  unfold tB
  rw [wp_bind]
  congr 1
  funext w m
  cases w <;> rfl
@[simp] theorem wp_andB {a b : BM} {Q : Bool → Mem → Prop} : (andB a b env mem).Post Q ex = (a env mem).Post (fun x m => if x = true then (b env m).Post Q ex else Q false m) ex := by
  unfold andB
  rw [wp_bind]
  congr 1
  funext x m
  cases x <;> rfl
@[simp] theorem wp_orB {a b : BM} {Q : Bool → Mem → Prop} : (orB a b env mem).Post Q ex = (a env mem).Post (fun x m => if x = true then Q true m else (b env m).Post Q ex) ex := by
  unfold orB
  rw [wp_bind]
  congr 1
  funext x m
  cases x <;> rfl
@[simp] theorem wp_notB {a : BM} {Q : Bool → Mem → Prop} : (notB a env mem).Post Q ex = (a env mem).Post (fun x m => Q (!x) m) ex := by
  unfold notB
  simp
@[simp] theorem wp_chain {f g : Op2} : (chainE f g ma mb mc env mem).Post Q ex = (ma env mem).Post (fun x m => (mb env m).Post (fun y m => (lift (f x y m)).Post (fun z m => match isB z with | some true => (mc env m).Post (fun w m => (lift (g y w m)).Post Q ex) ex | some false => Q (.bl false) m | none => False) ex) ex) ex := by
  unfold chainE
  simp only [wp_bind]
  congr 1
  funext x m
  congr 1
  funext y m
  congr 1
  funext z m
  cases isB z with
  | none => rfl
  | some b =>
    cases b with
    | true => simp
    | false => rfl
@[simp] theorem wp_optN {Q : Option Int → Mem → Prop} : (optE none env mem).Post Q ex = Q none mem := rfl
@[simp] theorem wp_optS {Q : Option Int → Mem → Prop} : (optE (some ma) env mem).Post Q ex = (ma env mem).Post (fun w m => match w with | .int i => Q (some i) m | _ => False) ex := by
  unfold optE
  rw [wp_bind]
  congr 1
  funext w m
  cases w <;> rfl
@[simp] theorem wp_slice {lo hi : Option EM} : (sliceE ma lo hi env mem).Post Q ex = (ma env mem).Post (fun x m => (optE lo env m).Post (fun l m => (optE hi env m).Post (fun h m => (lift (slV l h x m)).Post Q ex) ex) ex) ex := by
  unfold sliceE
  simp
@[simp] theorem wp_meth {chk : W → Mem → Bool} {f : OpM} : (methE chk f ma as env mem).Post Q ex = (ma env mem).Post (fun x m => chk x m = true ∧ (as env m).Post (fun xs m => (lift (f x xs m)).Post Q ex) ex) ex := by
  unfold methE
  rw [wp_bind]
  congr 1
  funext x m
  by_cases h : chk x m = true
  · rw [if_pos h]; simp [h]
  · rw [if_neg h]; simp [h]
@[simp] theorem wp_lr : (lrE ma env mem).Post Q ex = (ma env mem).Post (fun w m => match w with | .int n => (0 ≤ n ∧ n ≤ 16777216) ∧ Q (.loc m.length) (m ++ [.lst (rgW n)]) | _ => False) ex := by
  unfold lrE
  rw [wp_bind]
  congr 1
  funext w m
  cases w with
  | int n =>
    by_cases h : 0 ≤ n ∧ n ≤ 16777216
    · dsimp only; rw [if_pos h]; simp [h]
    · dsimp only; rw [if_neg h]; simp [h]
  | _ => rfl
@[simp] theorem wp_lc {it : IM} {g : GM} {t : BM} {e : EM} {vs : List Nat} : (lcE it g t e vs env mem).Post Q ex = (it env mem).Post (fun wk m => match lcLoop wk.nx g t e vs m.length env wk.k 0 (m ++ [.lst []]) with | some m' => Q (.loc m.length) m' | none => False) ex := by
  unfold lcE
  rw [wp_bind]
  congr 1
  funext wk m
  cases lcLoop wk.nx g t e vs m.length env wk.k 0 (m ++ [.lst []]) <;> rfl
@[simp] theorem wp_seqI {Q : Walk → Mem → Prop} : (seqI ma env mem).Post Q ex = (ma env mem).Post (fun w m => match walkOf w m with | some wk => Q wk m | none => False) ex := by
  unfold seqI
  rw [wp_bind]
  congr 1
  funext w m
  cases walkOf w m <;> rfl
@[simp] theorem wp_rng1 {Q : Walk → Mem → Prop} : (rng1I as env mem).Post Q ex = (as env mem).Post (fun ws m => match ws with | [.int j] => (-(2 ^ 62) ≤ j ∧ j < 2 ^ 62) ∧ Q ⟨rngN 0 j.toNat, j.toNat⟩ m | _ => False) ex := by
  unfold rng1I
  rw [wp_bind]
  congr 1
  funext ws m
  split
  · rename_i j
    by_cases h : -(2 ^ 62) ≤ j ∧ j < 2 ^ 62
    · rw [if_pos h]; exact propext ⟨fun q => ⟨h, q⟩, fun q => q.2⟩
    · rw [if_neg h]; exact propext ⟨fun q => q.elim, fun q => (h q.1).elim⟩
  · rename_i hn
    first
      | rfl
      | (split
         · rename_i j; exact absurd rfl (hn j)
         · rfl)
end
section
variable {q : SQ} {mem : Mem} {env : VEnv} {m : EM} {s t : SS}
@[simp] theorem ws_ofE {α : Type} {m : VEnv → SM α} {k : α → SS} : (ofE m k env mem).Post q = (m env mem).Post (fun w m' => (k w env m').Post q) (fun x m' => q.ex x env m') := by
  unfold ofE
  cases m env mem <;> rfl
@[simp] theorem ws_seq : (seqS s t env mem).Post q = (s env mem).Post ⟨fun e m => (t e m).Post q, q.rt, q.bk, q.ct, q.ex⟩ := by
  unfold seqS
  cases s env mem <;> rfl
@[simp] theorem ws_next : (nextS env mem).Post q = q.nx env mem := rfl
@[simp] theorem ws_brk : (brkS env mem).Post q = q.bk env mem := rfl
@[simp] theorem ws_ct : (ctS env mem).Post q = q.ct env mem := rfl
@[simp] theorem ws_ret : (retS m env mem).Post q = (m env mem).Post q.rt (fun x m => q.ex x env m) := by
  unfold retS
  simp only [ws_ofE]
  rfl
@[simp] theorem ws_retN : (retNS env mem).Post q = q.rt .non mem := rfl
@[simp] theorem ws_drop : (dropS m env mem).Post q = (m env mem).Post (fun _ m => q.nx env m) (fun x m => q.ex x env m) := by
  unfold dropS
  simp only [ws_ofE]
  rfl
@[simp] theorem ws_set {i : Nat} : (setS i m env mem).Post q = (m env mem).Post (fun w m => q.nx (env.set i (some w)) m) (fun x m => q.ex x env m) := by
  unfold setS
  simp only [ws_ofE]
  rfl
@[simp] theorem ws_if {b : BM} : (ifS b s t env mem).Post q = (b env mem).Post (fun c m => if c = true then (s env m).Post q else (t env m).Post q) (fun x m => q.ex x env m) := by
  unfold ifS
  simp only [ws_ofE]
  congr 1
  funext c m
  cases c <;> rfl
@[simp] theorem ws_asg {g : GM} : (asgS m g env mem).Post q = (m env mem).Post (fun w m => (g w env m).Post (fun e m => q.nx e m) (fun _ _ => False)) (fun x m => q.ex x env m) := by
  unfold asgS
  simp only [ws_ofE]
  congr 1
  funext w m
  cases g w env m <;> rfl
@[simp] theorem ws_par {i j : Nat} {as : AM} : (parS i j as env mem).Post q = (as env mem).Post (fun ws m => match ws with | [v, w] => q.nx ((env.set i (some v)).set j (some w)) m | _ => False) (fun x m => q.ex x env m) := by
  unfold parS
  simp only [ws_ofE]
  congr 1
  funext ws m
  match ws with
  | [] => rfl
  | [_] => rfl
  | [_, _] => rfl
  | _ :: _ :: _ :: _ => rfl
@[simp] theorem ws_aug {i : Nat} {f : Op2} : (augS i f m env mem).Post q = (bin f (varE i) m env mem).Post (fun w m => q.nx (env.set i (some w)) m) (fun x m => q.ex x env m) := by
  unfold augS
  simp only [ws_ofE]
  rfl
@[simp] theorem ws_for {it : IM} {g : GM} : (forS it g s env mem).Post q = (it env mem).Post (fun wk m => (loopS wk.nx g s wk.k 0 env m).Post q) (fun x m => q.ex x env m) := by
  unfold forS
  simp only [ws_ofE]
@[simp] theorem wg_name {i : Nat} {w : W} {Q : VEnv → Mem → Prop} {ex : Exc → Mem → Prop} : (nameG i w env mem).Post Q ex = Q (env.set i (some w)) mem := rfl
@[simp] theorem wg_nil {ws : List W} {Q : VEnv → Mem → Prop} {ex : Exc → Mem → Prop} : (nilG ws env mem).Post Q ex = (match ws with | [] => Q env mem | _ => False) := by
  unfold nilG
  cases ws <;> rfl
@[simp] theorem wg_cons {g : GM} {r : GMs} {ws : List W} {Q : VEnv → Mem → Prop} {ex : Exc → Mem → Prop} : (consG g r ws env mem).Post Q ex = (match ws with | w :: t => (g w env mem).Post (fun e m => (r t e m).Post Q ex) ex | [] => False) := by
  unfold consG
  cases ws with
  | nil => rfl
  | cons w t => exact wp_bind
@[simp] theorem wg_tup {n : Nat} {g : GMs} {w : W} {Q : VEnv → Mem → Prop} {ex : Exc → Mem → Prop} : (tupG n g w env mem).Post Q ex = (match w with | .tup ws => ws.length = n ∧ (g ws env mem).Post Q ex | _ => False) := by
  unfold tupG
  cases w with
  | tup ws =>
    by_cases h : ws.length = n
    · dsimp only; rw [if_pos h]; simp [h]
    · dsimp only; rw [if_neg h]; simp [h]
  | _ => rfl
@[simp] theorem wg_seq {n : Nat} {g : GMs} {w : W} {Q : VEnv → Mem → Prop} {ex : Exc → Mem → Prop} : (seqG n g w env mem).Post Q ex = (match itemsOf mem w with | some ws => ws.length = n ∧ (g ws env mem).Post Q ex | none => False) := by
  unfold seqG
  cases itemsOf mem w with
  | none => rfl
  | some ws =>
    by_cases h : ws.length = n
    · dsimp only; rw [if_pos h]; simp [h]
    · dsimp only; rw [if_neg h]; simp [h]
@[simp] theorem wg_sub {f : OpSet} {mo mi : EM} {w : W} {Q : VEnv → Mem → Prop} {ex : Exc → Mem → Prop} : (subG f mo mi w env mem).Post Q ex = (mo env mem).Post (fun o m => (mi env m).Post (fun i m => match f o i w m with | some m' => Q env m' | none => False) ex) ex := by
  unfold subG
  simp only [wp_bind]
  congr 1
  funext o m
  congr 1
  funext i m
  cases f o i w m <;> rfl
@[simp] theorem wr_run {n : Nat} {ws : List W} {Q : W → Mem → Prop} {ex : Exc → Mem → Prop} : (runB n s ws mem).Post Q ex = (s (startE n ws) mem).Post ⟨fun _ m => Q .non m, Q, fun _ _ => False, fun _ _ => False, fun x _ m => ex x m⟩ := by
  unfold runB
  cases s (startE n ws) mem <;> rfl
end
section
variable {nx : Nxt} {g : GM} {body : SS} {q : SQ}
/-- a loop over the items xs of a thing that stands still while J stands -/
theorem ws_loop (xs : List W) (J : Nat → VEnv → Mem → Prop) (hn : ∀ i env mem, i ≤ xs.length → J i env mem → nx i mem = some xs[i]?) {env : VEnv} {mem : Mem} (h0 : J 0 env mem)
    (hs : ∀ i x env mem, xs[i]? = some x → J i env mem → (g x env mem).Post (fun e1 m1 => (body e1 m1).Post ⟨J (i + 1), q.rt, q.nx, J (i + 1), q.ex⟩) (fun _ _ => False))
    (hd : ∀ env mem, J xs.length env mem → q.nx env mem) : (loopS nx g body xs.length 0 env mem).Post q := by
  have key : ∀ (k i : Nat) (env : VEnv) (mem : Mem), i + k = xs.length → J i env mem → (loopS nx g body k i env mem).Post q := by
    intro k
    induction k with
    | zero =>
      intro i env mem e j
      have hi : i = xs.length := by omega
      subst hi
      unfold loopS
      rw [hn _ _ _ (Nat.le_refl _) j, List.getElem?_eq_none (Nat.le_refl _)]
      exact hd _ _ j
    | succ k ih =>
      intro i env mem e j
      have hi : i < xs.length := by omega
      unfold loopS
      rw [hn _ _ _ (Nat.le_of_lt hi) j, List.getElem?_eq_getElem hi]
      have h1 := hs i xs[i] env mem (List.getElem?_eq_getElem hi) j
      dsimp only
      cases eg : g xs[i] env mem with
      | ok e1 m1 =>
        rw [eg] at h1
        have h2 : (body e1 m1).Post ⟨J (i + 1), q.rt, q.nx, J (i + 1), q.ex⟩ := h1
        dsimp only
        cases eb : body e1 m1 with
        | nx e m => rw [eb] at h2; exact ih (i + 1) e m (by omega) h2
        | ct e m => rw [eb] at h2; exact ih (i + 1) e m (by omega) h2
        | bk e m => rw [eb] at h2; exact h2
        | rt w m => rw [eb] at h2; exact h2
        | exc x e m => rw [eb] at h2; exact h2
        | bad => rw [eb] at h2; exact h2
      | exc x m => rw [eg] at h1; exact h1.elim
      | bad => rw [eg] at h1; exact h1.elim
  exact key xs.length 0 env mem (by omega) h0
/-- for k in range(lo, lo + n) -/
theorem ws_range {lo : Int} (n : Nat) (J : Nat → VEnv → Mem → Prop) {env : VEnv} {mem : Mem} (h0 : J 0 env mem)
    (hs : ∀ i env mem, i < n → J i env mem → (g (.int (lo + i)) env mem).Post (fun e1 m1 => (body e1 m1).Post ⟨J (i + 1), q.rt, q.nx, J (i + 1), q.ex⟩) (fun _ _ => False))
    (hd : ∀ env mem, J n env mem → q.nx env mem) : (loopS (rngN lo n) g body n 0 env mem).Post q := by
  have h := ws_loop (nx := rngN lo n) (g := g) (body := body) (q := q) ((List.range n).map fun i => W.int (lo + (i : Nat))) J (fun i env mem hi _ => by
    rw [List.length_map, List.length_range] at hi
    unfold rngN
    rw [List.getElem?_map]
    by_cases hl : i < n
    · rw [if_pos hl, List.getElem?_range hl]; rfl
    · rw [if_neg hl, List.getElem?_eq_none (by rw [List.length_range]; omega)]; rfl) h0 (fun i x env mem hx j => by
    rw [List.getElem?_map] at hx
    by_cases hl : i < n
    · rw [List.getElem?_range hl] at hx
      cases hx
      exact hs i env mem hl j
    · rw [List.getElem?_eq_none (by rw [List.length_range]; omega)] at hx
      cases hx) (fun env mem j => hd env mem (by rw [List.length_map, List.length_range] at j; exact j))
  rw [List.length_map, List.length_range] at h
  exact h
end
end Sh
set_option linter.all false
set_option maxRecDepth 100000
set_option maxHeartbeats 4000000
set_option linter.all false
set_option maxRecDepth 100000
set_option maxHeartbeats 4000000
namespace ErX
open PySem PySem.Spec PySem.W PySem.Calls PyProof.Rows PySem.HandSPX
abbrev exT : List Value := [.type "Exception", .type "BaseException", .type "object"]
/-- x.name = v, the first store into an exception of a class over Exception -/
theorem er_osa {prog : Program} {w : World} {A : Around} {R : Result → Shared → Prop} {hp : Heap} {g : Array GenState} {d : Drawn} {t : Nat} {os : OsState} {K : Frag} {name : Str} {tk : Tok} {v : Value} {x C : Addr} {fv : Array Value} {cd : ClassData} {bm : List Value}
    (X : K.In hp) (hx : hp.get? x = some { cls := .ref C, data := .fields fv }) (hcd : clsIn K C = some cd) (hm : cd.mro = .ref C :: bm) (ht : excTail exT bm = true) (hh : cd.hasDict = true) (ha : findIn K (.ref C) name = some none)
    (hq : ∀ h' tk' dx, (∀ b o, b ≠ x → hp.get? b = some o → h'.get? b = some o) → hp.objs.size ≤ dx → dx ≠ x → h'.get? x = some { cls := .ref C, dict := some dx, data := .fields fv } →
      h'.Ns1 dx (fun y => if y = name then some v else none) → R (.ok (.ret .none)) ⟨h', g, d, tk', os⟩) :
    codeAny (model prog w) A (.call (.builtin "object.__setattr__") ⟨[.ref x, .str name tk, v], []⟩) R ⟨hp, g, d, t, os⟩ := by
  have I : InstAt hp x { cls := .ref C, data := .fields fv } C none := ⟨hx, rfl, rfl, trivial⟩
  have hxs : x ≠ hp.objs.size := Nat.ne_of_lt (Heap.lt_size hx)
  have ov : excOver K C exT = true := by
    unfold excOver
    rw [hcd]
    show (match cd.mro with | .ref C' :: bm => C' == C && excTail exT bm | _ => false) = true
    rw [hm]
    show (C == C && excTail exT bm) = true
    rw [ht, beq_self_eq_true]
    rfl
  have htk : takerIn K C name = some none := by
    unfold takerIn
    rw [ha]
    rfl
  refine osa_openX PySem.F.store_Exception X I ov htk fun b => ?_
  dsimp only
  have hcls : Looks (model prog w) hp (classData C) cd := looks_clsIn X hcd
  obtain ⟨nm, bs, mro, ns, qn, hd, sn, sb, ab, col, del⟩ := cd
  dsimp only at hh
  subst hh
  unfold Builtin.ObjectAttr.storeInOwnDict Builtin.ObjectAttr.ownDictForStores
  repeat (first | with_reducible refine HandSPX.store_in_new ?_ ?_ | with_reducible refine wpAny_loadPart_at hx ?_ | with_reducible refine hcls.at ?_ | wp_step)
  · exact ⟨_, #[], _, (Heap.get?_update_ne _ _ _ _ hxs.symm).trans (Heap.get?_push_at rfl rfl), rfl, fun e he => absurd he (by simp), fun _ => rfl⟩
  · intro h' tk' hn' hs
    have hx₁ : (hp.push { cls := .type "dict", data := .dict #[] }).get? x = some { cls := .ref C, data := .fields fv } := Heap.get?_push_of_some _ hx
    refine hq h' tk' hp.objs.size (fun b o hb ho => ?_) (Nat.le_refl _) hxs.symm ?_ hn'
    · exact (hs.2 b (Nat.ne_of_lt (Heap.lt_size ho))).trans ((Heap.get?_update_ne _ _ _ _ hb).trans (Heap.get?_push_of_some _ ho))
    · exact (hs.2 x hxs).trans (Heap.get?_update_self _ hx₁ rfl)
def iA (p1 p2 : Pos) : Arguments := { posonlyargs := [], args := [{ arg := "self", annotation := none, pos := p1 }, { arg := "at", annotation := none, pos := p2 }], vararg := none, kwonlyargs := [], kw_defaults := [], kwarg := none, defaults := [] }
def iB (q1 q2 q3 q4 : Pos) : List Stmt := [.Assign [.Attribute (.Name "self" q1) "at" q2] (.Name "at" q3) q4]
def iS : Scope := { kind := .function, names := [(PySem.Str.ofString "self", .local), (PySem.Str.ofString "at", .local)], isGenerator := false, isCoroutine := false, more := [] }
theorem one_size (v : Value) : [v].length ≤ sizeLine := by
  rw [sizeLine_eq]
  exact (by decide : 1 ≤ 16777216)
theorem ldC {M : Model} {s : Shared} {name : Str} {scope : Scope} {L a : Addr} {cd : Value} {m : Str → Option Value} {x : Str} {pos : Pos} {v : Value} {Q : Value → Shared → Prop} {A : Around} {E : Value → Shared → Prop} (hn : s.heap.Ns L m) (hv : m x = some v) (h : Q v s)
    (hk : scope.kind = .function := by rfl) (hl : (envOfC name scope L a cd).kindOf x = some .local := by rfl) (hd : (x == ("__debug__" : Str)) = false := by decide) :
    wpAny M A (eval (.Name x pos) (envOfC name scope L a cd)) Q E s := wpAny_Name (wpAny_loadName_local hk hl hn hv h) hd
/-- what __init__ leaves of a fresh exception at x -/
structure InitEnd (h h' : Heap) (x C dx t1 : Addr) (v : Value) : Prop where
  keep : ∀ b o, b ≠ x → h.get? b = some o → h'.get? b = some o
  obj : h'.get? x = some { cls := .ref C, dict := some dx, data := .fields #[.ref t1, .none, .none, .none, .bool false, .none] }
  dbig : h.objs.size ≤ dx
  dne : dx ≠ x
  ns : h'.Ns1 dx (fun y => if y = "at" then some v else none)
end ErX
set_option linter.all false
set_option maxRecDepth 100000
set_option maxHeartbeats 4000000
set_option linter.all false
set_option maxRecDepth 100000
set_option maxHeartbeats 4000000
set_option linter.all false
set_option maxRecDepth 100000
set_option maxHeartbeats 4000000
namespace Sh
open PySem PySem.Spec PyProof.Rows L2
/-- true: a tuple; false: a list -/
def SqK (k : Bool) (K : PySem.W.Frag) (H : Hp) (a : Addr) (xs : List V) : Prop := match k with
  | true => SqT K H a xs
  | false => SqL K H a xs
def KIt (k : Bool) (h : Heap) (it a : Addr) (i : Nat) : Prop := match k with
  | true => h.IsTupleIter it a i
  | false => h.IsListIter it a i
def KSq (k : Bool) (h : Heap) (a : Addr) (us : Array Value) : Prop := match k with
  | true => h.IsTuple a us
  | false => h.IsList a us
theorem KIt.at {k : Bool} {h h' : Heap} {it a : Addr} {i : Nat} (x : KIt k h it a i) (e : ∀ o, h.get? it = some o → h'.get? it = some o) : KIt k h' it a i := by
  cases k
  · exact Heap.IsListIter.at x e
  · exact Heap.IsTupleIter.at x e
theorem KIt.obj {k : Bool} {h : Heap} {it a : Addr} {i : Nat} (x : KIt k h it a i) : ∃ o, h.get? it = some o ∧ ∀ v, o.data ≠ .cell v := by
  cases k
  · obtain ⟨o, e, _, d⟩ := x
    exact ⟨o, e, fun v q => by rw [d] at q; cases q⟩
  · obtain ⟨o, e, _, d⟩ := x
    exact ⟨o, e, fun v q => by rw [d] at q; cases q⟩
theorem KIt.lt {k : Bool} {h : Heap} {it a : Addr} {i : Nat} (x : KIt k h it a i) : it < h.objs.size := by
  obtain ⟨o, e, _⟩ := x.obj
  exact Heap.lt_size e
theorem KSq.at {k : Bool} {h h' : Heap} {a : Addr} {us : Array Value} (x : KSq k h a us) (e : ∀ o, h.get? a = some o → h'.get? a = some o) : KSq k h' a us := by
  cases k
  · exact Heap.IsList.at x e
  · exact Heap.IsTuple.at x e
section
variable {X : Cx} {pins : List (Addr × Obj)} {σ : L2.St} {H : Hp} {s : Shared} {a : Addr} {k : Bool}
theorem SqK.get {xs : List V} (h : SqK k X.K H a xs) (I : Inv X pins σ H s) : ∃ us : List Value, Vals xs us ∧ KSq k s.heap a us.toArray ∧ a < s.heap.objs.size := by
  cases k
  · obtain ⟨us, r, p, _⟩ := I.list h
    exact ⟨us, r, p.isList, p.lt⟩
  · obtain ⟨us, r, p, _⟩ := I.tuple h
    obtain ⟨o, e, _⟩ := id p
    exact ⟨us, r, p, Heap.lt_size e⟩
theorem SqK.inj {xs ys : List V} (h : SqK k X.K H a xs) (h' : SqK k X.K H a ys) (I : Inv X pins σ H s) : xs = ys := by
  cases k
  · exact I.list_inj h h'
  · exact I.tuple_inj h h'
end
end Sh
set_option linter.all false
set_option maxRecDepth 100000
set_option maxHeartbeats 4000000
namespace Sh
open PySem PySem.Spec PyProof.Rows L2
/-- the items of a list or a tuple -/
def sqAt (mem : Mem) : W → Option (List W)
  | .loc n => listAt mem n
  | .tup xs => some xs
  | _ => none
/-- where a value's items stand -/
inductive SqW (K : PySem.W.Frag) (loc : Locs) (H : Hp) : W → Bool → Addr → Prop
  | loc {n : Nat} {a : Addr} : loc[n]? = some a → SqW K loc H (.loc n) false a
  | tup {xs : List W} {a : Addr} {vs : List V} : SqT K H a vs → Rvs K loc H xs vs → SqW K loc H (.tup xs) true a
theorem SqW.mono {K : PySem.W.Frag} {loc loc' : Locs} {H H' : Hp} {u : W} {k : Bool} {a : Addr} (h : SqW K loc H u k a) (e : Ext loc H loc' H') : SqW K loc' H' u k a := by
  cases h with
  | loc h => exact .loc (e.at h)
  | tup h r => exact .tup (e.sqT h) (r.mono e)
theorem SqW.of {K : PySem.W.Frag} {loc : Locs} {H : Hp} {mem : Mem} {u : W} {v : V} {xs : List W} (h : Rv K loc H u v) (e : sqAt mem u = some xs) : ∃ k a, v = .ref a ∧ SqW K loc H u k a := by
  cases h with
  | loc h => exact ⟨_, _, rfl, .loc h⟩
  | tup h r => exact ⟨_, _, rfl, .tup h r⟩
  | _ => cases e
end Sh
set_option linter.all false
set_option linter.all false
set_option maxRecDepth 100000
set_option maxHeartbeats 4000000
namespace Sh
open PySem PySem.Spec PyProof.Rows L2
def b__law_so (f__law_so : Fn) : SS :=
  (seqS (ifS (tB (bin isV (varE 1) (cE .non))) (retS (bin isV (varE 0) (cE .non))) nextS)
    (seqS (ifS (tB (callN isiV (consA (varE 1) (consA (cE (.ty "tuple")) nilA)))) (seqS (ifS (orB (notB (tB (callN isiV (consA (varE 0) (consA (cE (.ty "tuple")) nilA))))) (tB (bin neV (callN lenV (consA (varE 0) nilA)) (callN lenV (consA (varE 1) nilA))))) (retS (cE (.bl false))) nextS)
    (seqS (forS (rng1I (consA (callN lenV (consA (varE 1) nilA)) nilA)) (nameG 2) (ifS (notB (tB (callF f__law_so (consA (bin ixV (varE 0) (varE 2)) (consA (bin ixV (varE 1) (varE 2)) nilA))))) (retS (cE (.bl false))) nextS))
    (retS (cE (.bl true))))) nextS)
    (seqS (ifS (orB (tB (callN isiV (consA (varE 1) (consA (cE (.ty "bool")) nilA)))) (tB (callN isiV (consA (varE 0) (consA (cE (.ty "bool")) nilA))))) (retS (andV (callN isiV (consA (varE 1) (consA (cE (.ty "bool")) nilA))) (andV (callN isiV (consA (varE 0) (consA (cE (.ty "bool")) nilA))) (bin eqV (varE 0) (varE 1))))) nextS)
    (seqS (ifS (tB (callN isiV (consA (varE 1) (consA (cE (.ty "int")) nilA)))) (retS (andV (callN isiV (consA (varE 0) (consA (cE (.ty "int")) nilA))) (bin eqV (varE 0) (varE 1)))) nextS)
    (retS (andV (callN isiV (consA (varE 1) (consA (cE (.ty "str")) nilA))) (andV (callN isiV (consA (varE 0) (consA (cE (.ty "str")) nilA))) (bin eqV (varE 0) (varE 1)))))))))
def b__law_numbers : SS :=
  (seqS (setS 1 (lstE nilA))
    (seqS (forS (seqI (sliceE (varE 0) none (some (cE (.int 63))))) (nameG 2) (ifS (tB (bin geV (varE 2) (bin powV (cE (.int 10)) (cE (.int 18))))) (seqS (setS 3 (varE 2))
    (forS (rng1I (consA (cE (.int 60)) nilA)) (nameG 4) (seqS (ifS (tB (bin eqV (varE 3) (cE (.int 0)))) brkS nextS)
    (seqS (dropS (methE chkL appendV (varE 1) (consA (bin modV (callN intV (consA (varE 3) nilA)) (cE (.int 997))) nilA)))
    (setS 3 (bin fdivV (varE 3) (cE (.int 997)))))))) (forS (rng1I (consA (cE (.int 4)) nilA)) (nameG 4) (seqS (setS 5 (bin modV (callN intV (consA (bin addV (bin addV (bin mulV (varE 2) (cE (.int 48271))) (bin mulV (varE 4) (cE (.int 69621)))) (cE (.int 11))) nilA)) (cE (.int 2147483647))))
    (dropS (methE chkL appendV (varE 1) (consA (bin modV (callN intV (consA (bin addV (bin mulV (varE 5) (cE (.int 16807))) (varE 4)) nilA)) (cE (.int 2147483629))) nilA)))))))
    (seqS (ifS (tB (bin eqV (callN lenV (consA (varE 1) nilA)) (cE (.int 0)))) (dropS (methE chkL appendV (varE 1) (consA (cE (.int 0)) nilA))) nextS)
    (retS (varE 1)))))
def b__law_draw : SS :=
  (seqS (ifS (tB (bin ltV (varE 1) (callN lenV (consA (varE 0) nilA)))) (retS (bin modV (callN intV (consA (bin ixV (varE 0) (varE 1)) nilA)) (varE 2))) nextS)
    (seqS (setS 3 (bin modV (callN intV (consA (bin addV (bin addV (bin mulV (bin ixV (varE 0) (bin modV (callN intV (consA (varE 1) nilA)) (callN lenV (consA (varE 0) nilA)))) (cE (.int 40692))) (bin mulV (varE 1) (cE (.int 7919)))) (cE (.int 3))) nilA)) (cE (.int 2147483399))))
    (retS (bin modV (callN intV (consA (bin modV (callN intV (consA (bin addV (bin mulV (varE 3) (cE (.int 48271))) (varE 1)) nilA)) (cE (.int 2147483647))) nilA)) (varE 2)))))
def b__law_take (f__law_draw : Fn) : SS :=
  (seqS (asgS (bin addV (bin ixV (varE 1) (cE (.int 0))) (cE (.int 1))) (subG setV (varE 1) (cE (.int 0))))
    (retS (callF f__law_draw (consA (varE 0) (consA (bin subV (bin ixV (varE 1) (cE (.int 0))) (cE (.int 1))) (consA (varE 2) nilA))))))
end Sh
set_option linter.all false
set_option autoImplicit false
set_option maxRecDepth 100000
set_option maxHeartbeats 4000000
namespace XK
open PySem PySem.PX PySem.W PySem.Calls PyProof.Rows
open Builtin Builtin.ObjectAttr
section
variable {M : Model} {A : Around} {E : Value → Shared → Prop} {h : Heap} {g : Array GenState} {d : Drawn} {t : Nat} {os : OsState}
variable {nm q : Str} {C N : Addr} {bs bm bmB : List Value} {hdct : Bool} {sn : List Str} {sub : List Value} {ab : Bool} {col : Option Bool} {dd : Option Addr} {k0 k1 k2 k3 k5 : Option Value} {B newId initId : String}
theorem check_new_kw (F : ExcBaseFacts B newId initId bmB) (hT : ∀ X : String, bm.contains (.type X) = bmB.contains (.type X)) {kw : List (Str × Value)} {Q : Unit → Shared → Prop}
    (hC : h.get? C = some (excClassObj nm q C N bs bm hdct sn sub ab col dd k0 k1 k2 k3 k5 newId)) (hq : Q () ⟨h, g, d, t, os⟩) : wpAny M A (checkBuiltinCall newId ⟨[.ref C], kw⟩) Q E ⟨h, g, d, t, os⟩ := by
  have hcont : (Value.ref C :: bm).contains (.type B) = true := by rw [List.contains_cons, hT, F.hasB, Bool.or_true]
  have hstar := F.noStar
  simp only [checkBuiltinCall, F.newKind, F.newSplit, F.newRow]
  repeat (first | refine wpAny_loadPart_at hC ?_ | (refine wpAny_isSubtype_exc hC ?_; rw [hcont]) | refine wpAny_staticBase_exc hC ?_ | refine wpAny_madeBy_exc hC ?_ | simp only [bne_self_eq_false, Bool.false_eq_true, if_false] | wp_step)
  exact hq
theorem check_type_call_kw {kw : List (Str × Value)} {Q : Unit → Shared → Prop} (hC : h.get? C = some (excClassObj nm q C N bs bm hdct sn sub ab col dd k0 k1 k2 k3 k5 newId))
    (hq : Q () ⟨h, g, d, t, os⟩) : wpAny M A (checkBuiltinCall "type.__call__" ⟨[.ref C], kw⟩) Q E ⟨h, g, d, t, os⟩ := by
  have f3 := tc_sub
  have hT : (⟨h, g, d, t, os⟩ : Shared).TypeIs (.ref C) "type" := ⟨_, hC, rfl⟩
  simp only [checkBuiltinCall, tc_kind, tc_split]
  repeat (any_goals (first | assumption | with_reducible refine wpAny_loadPart_at hC ?_ | with_reducible refine wpAny_onRaise ?_ | with_reducible refine wpAny_map ?_ | wp_step))
end
section
variable {prog : Program} {w : World} {A : Around} {E : Value → Shared → Prop} {R : Result → Shared → Prop} {h : Heap} {g : Array GenState} {d : Drawn} {t : Nat} {os : OsState}
variable {nm q : Str} {C N : Addr} {bs bm bmB : List Value} {hdct : Bool} {sn : List Str} {sub : List Value} {ab : Bool} {col : Option Bool} {dd : Option Addr} {k0 k1 k2 k3 k5 : Option Value} {B newId initId : String}
theorem new_kw (F : ExcBaseFacts B newId initId bmB) (hT : ∀ X : String, bm.contains (.type X) = bmB.contains (.type X)) {kw : List (Str × Value)}
    (hC : h.get? C = some (excClassObj nm q C N bs bm hdct sn sub ab col dd k0 k1 k2 k3 k5 newId))
    (hq : R (.ok (.ret (.ref (h.objs.size + 1)))) ⟨(h.push { cls := .type "tuple", data := .seq ([] : List Value).toArray }).push
      { cls := .ref C, data := .fields #[.ref h.objs.size, .none, .none, .none, .bool false, .none] }, g, d, t, os⟩) :
    codeAny (model prog w) A (.builtin newId ⟨[.ref C], kw⟩) R ⟨h, g, d, t, os⟩ := by
  have hends := F.ends
  have hrest : ([] : List Value).length ≤ sizeLine := by rw [sizeLine_eq]; exact (by decide : 0 ≤ 16777216)
  have hcB : (Value.ref C :: bm).contains (.type B) = true := by rw [List.contains_cons, hT, F.hasB, Bool.or_true]
  have hcA : (Value.ref C :: bm).contains (.type "AttributeError") = false := by rw [List.contains_cons, hT, F.noAttr]; rfl
  have hcN : (Value.ref C :: bm).contains (.type "NameError") = false := by rw [List.contains_cons, hT, F.noName]; rfl
  refine PySem.codeAny_builtinAt F.entry ?_
  unfold Builtin.«BaseException.__new__»
  refine PySem.wpAt_bind ?_
  show PySem.wpAt _ _ _ (stack >>= _) _ _ _
  refine PySem.wpAt_bind (PySem.wpAt_stack fun p below => PySem.wpAt_of_wpAny ?_)
  wp_walk
  refine PySem.wpAt_of_wpAny ?_
  rw [F.owner]
  repeat (first | with_reducible refine wpAny_madeHere_exc F.canon hC ?_ | with_reducible refine wpAny_loadPart_at hC ?_ | (with_reducible refine wpAny_isSubtype_exc hC ?_; first | rw [hcB] | rw [hcA] | rw [hcN]) | wp_step)
  show R _ _
  rw [Heap.size_push]
  exact hq
theorem type_call_kw (F : ExcBaseFacts B newId initId bmB) (hT : ∀ X : String, bm.contains (.type X) = bmB.contains (.type X)) {kw : List (Str × Value)} {fI : Addr} {Q : Fin → Shared → Prop}
    (hC : h.get? C = some (excClassObj nm q C N bs bm hdct sn sub ab col dd k0 k1 k2 k3 k5 newId))
    (hi : W.Looks (model prog w) h (typeLookup (.ref C) "__init__") (some (.ref fI))) (hb : ∀ self, W.Looks (model prog w) h (bindSpecial (.ref fI) self) (.ref fI, [self]))
    (hq : codeAny (model prog w) A (.call (.ref fI) ⟨[.ref (h.objs.size + 1)], kw⟩)
      (fun r s' => match r with | .ok (.ret v) => v = .none ∧ Q (.done (.ret (.ref (h.objs.size + 1)))) s' | .ok _ => False | .error e => E e s')
      ⟨(h.push (W.kdv_tup [])).push (excO C h.objs.size), g, d, t, os⟩) :
    wpAny (model prog w) A (Builtin.«type.__call__» ⟨[.ref C], kw⟩) Q E ⟨h, g, d, t, os⟩ := by
  repeat (first | with_reducible refine wpAny_loadPart_at hC ?_ | with_reducible refine wpAny_madeBy_exc hC ?_ | wp_step)
  refine codeAny_call_builtin_code (Code.quiet_builtin _ F.quiet) (check_new_kw F hT hC ?_)
  refine new_kw F hT hC ?_
  show wpAny _ _ _ _ _ _
  have k : ∀ b o, h.get? b = some o → ((h.push (W.kdv_tup [])).push (excO C h.objs.size)).get? b = some o := fun b o e => Heap.get?_push_of_some _ (Heap.get?_push_of_some _ e)
  have hC₁ := k _ _ hC
  have hget : ((h.push (W.kdv_tup [])).push (excO C h.objs.size)).get? (h.objs.size + 1) = some (excO C h.objs.size) := by heap_get
  have hcC : (Value.ref C :: bm).contains (.ref C) = true := by simp
  have i1 := hi.keeps k
  have b1 := (hb (.ref (h.objs.size + 1))).keeps k
  unfold isInstance
  repeat (first | with_reducible refine wpAny_loadPart_at hget ?_ | (with_reducible refine wpAny_isSubtype_exc hC₁ ?_; rw [hcC]) | wp_step)
  show wpAny _ _ (typeLookup (.ref C) _) _ _ _
  refine i1.at ?_
  refine wpAny_holding (wpAny_bind (b1.at ?_))
  refine wpAny_bind (wpAny_call (codeAny_mono hq fun r s' z => ?_))
  rcases r with e | (v | _ | _ | _) <;> first | exact z | exact z.elim | skip
  obtain ⟨rfl, z⟩ := z
  first
    | exact wpAny_pure (wpAny_pure z)
    | (wp_walk; exact z)
theorem call_kw (F : ExcBaseFacts B newId initId bmB) (hT : ∀ X : String, bm.contains (.type X) = bmB.contains (.type X)) {kw : List (Str × Value)} {fI : Addr}
    (hC : h.get? C = some (excClassObj nm q C N bs bm hdct sn sub ab col dd k0 k1 k2 k3 k5 newId))
    (hi : W.Looks (model prog w) h (typeLookup (.ref C) "__init__") (some (.ref fI))) (hb : ∀ self, W.Looks (model prog w) h (bindSpecial (.ref fI) self) (.ref fI, [self]))
    (hq : codeAny (model prog w) (A.under (.builtin "type.__call__" ⟨[.ref C], kw⟩)) (.call (.ref fI) ⟨[.ref (h.objs.size + 1)], kw⟩) (W.InitBack (h.objs.size + 1) R)
      ⟨(h.push (W.kdv_tup [])).push (excO C h.objs.size), g, d, t, os⟩) :
    codeAny (model prog w) A (.call (.ref C) ⟨[], kw⟩) R ⟨h, g, d, t, os⟩ := by
  have f1 := tc_lookup
  have f2 := tc_bind (.ref C)
  have hTy : (⟨h, g, d, t, os⟩ : Shared).TypeIs (.ref C) "type" := ⟨_, hC, rfl⟩
  refine codeAny_of_tree ?_
  show wpAny _ _ (callAny (.ref C) _) _ _ _
  repeat (any_goals (first | assumption | with_reducible refine wpAny_loadPart_at hC ?_ | wp_step))
  refine ⟨rfl, ?_⟩
  refine codeAny_call_builtin_at (Code.quiet_builtin _ (by decide +kernel)) entry_typeCall (check_type_call_kw hC (type_call_kw F hT hC hi hb ?_))
  refine codeAny_mono hq fun r s' z => ?_
  rcases r with e | (v | _ | _ | _) <;> exact z
end
end XK
set_option linter.all false
set_option maxRecDepth 100000
set_option maxHeartbeats 4000000
namespace XB
open PySem PySem.Spec PySem.W PySem.Calls PyProof.Rows PySem.HandSPX
/-- what __init__ leaves of a fresh exception at x -/
structure InitEnd (f : Str) (h h' : Heap) (x C dx t1 : Addr) (v : Value) : Prop where
  keep : ∀ b o, b ≠ x → h.get? b = some o → h'.get? b = some o
  obj : h'.get? x = some { cls := .ref C, dict := some dx, data := .fields #[.ref t1, .none, .none, .none, .bool false, .none] }
  dbig : h.objs.size ≤ dx
  dne : dx ≠ x
  ns : h'.Ns1 dx (fun y => if y = f then some v else none)
structure Made (f : Str) (h h' : Heap) (e C d : Addr) (v : Value) : Prop where
  keep : ∀ b o, h.get? b = some o → h'.get? b = some o
  new : h.objs.size ≤ e
  obj : ∃ oe vs, h'.get? e = some oe ∧ oe.cls = .ref C ∧ oe.dict = some d ∧ oe.data = .fields vs ∧ vs[1]? = some .none
  dbig : h.objs.size ≤ d
  dne : d ≠ e
  ns : h'.Ns1 d (fun y => if y = f then some v else none)
structure MkOk (K : Frag) (mg : Str → Option Value) (cn : Str) (C : Addr) (f : Str) : Prop where
  gC : mg cn = some (.ref C)
  kC : keepIn K (.ref C) = true
  pos : ∀ {prog : Program} {w : World} {A : Around} {R : Result → Shared → Prop} {s : Shared} {v : Value}, K.In s.heap → s.heap.NoLimit → A.depth + 1 < recursionLimit →
    (∀ h' tk e d, Made f s.heap h' e C d v → R (.ok (.ret (.ref e))) { s with heap := h', toks := tk }) → codeAny (model prog w) A (.call (.ref C) ⟨[v], []⟩) R s
  kw : ∀ {prog : Program} {w : World} {A : Around} {R : Result → Shared → Prop} {s : Shared} {v : Value}, K.In s.heap → s.heap.NoLimit → A.depth + 1 < recursionLimit →
    (∀ h' tk e d, Made f s.heap h' e C d v → R (.ok (.ret (.ref e))) { s with heap := h', toks := tk }) → codeAny (model prog w) A (.call (.ref C) ⟨[], [(f, v)]⟩) R s
end XB
set_option linter.all false
set_option maxRecDepth 100000
set_option maxHeartbeats 4000000
namespace XF_at
open PySem PySem.Spec PySem.W PySem.Calls PyProof.Rows PySem.HandSPX XB ErX
def iA (p1 p2 : Pos) : Arguments := { posonlyargs := [], args := [{ arg := "self", annotation := none, pos := p1 }, { arg := "at", annotation := none, pos := p2 }], vararg := none, kwonlyargs := [], kw_defaults := [], kwarg := none, defaults := [] }
def iB (q1 q2 q3 q4 : Pos) : List Stmt := [.Assign [.Attribute (.Name "self" q1) "at" q2] (.Name "at" q3) q4]
def iS : Scope := { kind := .function, names := [(PySem.Str.ofString "self", .local), (PySem.Str.ofString "at", .local)], isGenerator := false, isCoroutine := false, more := [] }
structure Txt (K : Frag) (mg : Str → Option Value) (cn qn : Str) (C fI : Addr) : Prop where
  gC : mg cn = some (.ref C)
  cls : ∃ nm q N bs bm sn sub ab col dd k0 k1 k2 k3 k5, K.lookup C = some (excClassObj nm q C N bs bm true sn sub ab col dd k0 k1 k2 k3 k5 "Exception.__new__") ∧ excTail exT bm = true
  sa : findIn K (.ref C) "__setattr__" = some (some (.builtin "object.__setattr__"))
  noN : findIn K (.ref C) "at" = some none
  iC : findIn K (.ref C) "__init__" = some (some (.ref fI))
  tC : typeIn K (.ref fI) = some (.type "function")
  kC : keepIn K (.ref C) = true
  fn : ∃ (oc : Value) (od : Option Addr) (doc pm : Value) (an : Option Addr) (cdv ct : Value) (osl : Array (Option Value)) (p1 p2 q1 q2 q3 q4 : Pos),
    K.lookup fI = some ⟨oc, od, .func (fnOf "__init__" qn (iA p1 p2) (iB q1 q2 q3 q4) iS .none .none doc pm an cdv ct), osl⟩ ∧ codeIn K cdv qn = true
section
variable {prog : Program} {w : World} {A : Around} {E : Value → Shared → Prop} {R : Result → Shared → Prop} {s : Shared} {K : Frag} {mg : Str → Option Value} {cn qn : Str} {C fI : Addr}
theorem initP (T : Txt K mg cn qn C fI) {x t0 : Addr} {v : Value} {args : Args} (hargs : args = ⟨[.ref x, v], []⟩ ∨ args = ⟨[.ref x], [("at", v)]⟩) (X : K.In s.heap) (hlim : s.heap.NoLimit) (hx : s.heap.get? x = some (excO C t0)) (hnx : K.lookup x = none) (hroom : A.depth < recursionLimit)
    (hq : ∀ h' tk dx, InitEnd "at" s.heap h' x C dx t0 v → R (.ok (.ret .none)) { s with heap := h', toks := tk }) :
    codeAny (model prog w) A (.call (.ref fI) args) R s := by
  obtain ⟨oc, od, doc, pm, an, cdv, ct, osl, p1, p2, q1, q2, q3, q4, ho, hcd⟩ := T.fn
  obtain ⟨nm, q, N, bs, bm, sn, sub, ab, col, dd, k0, k1, k2, k3, k5, hC, hbm⟩ := T.cls
  have hcl : clsIn K C = some { name := nm, bases := bs, mro := .ref C :: bm, ns := N, qualname := q, hasDict := true, slotNames := sn, subclasses := sub, abstract := ab, collection := col, hasDel := false } := by unfold clsIn; rw [hC] <;> rfl
  refine Att.call_fn (binds := [("self", .ref x), ("at", v)]) X hlim ho hcd hroom (BindsTo.of_eq (by rcases hargs with rfl | rfl <;> first | rfl | with_unfolding_all rfl)) (by first | rfl | decide | with_unfolding_all rfl) (fun s₁ IC => ?_) rfl rfl rfl
  obtain ⟨h₁, tk₁, rfl⟩ := IC.toInCall.same
  have k : ∀ b o, s.heap.get? b = some o → h₁.get? b = some o := IC.toInCall.keep
  have hn := IC.toInCall.ns
  have hxL : s.heap.objs.size ≠ x := Nat.ne_of_gt (Heap.lt_size hx)
  have X₁ : K.In h₁ := X.keeps k
  have hx₁ := k _ _ hx
  show wpAny _ _ (execs _ _) _ _ _
  refine wpAny_execs_cons (plainObj_wpAny_Assign_Attribute ?_)
  refine ldC (v := v) hn (by first | rfl | with_unfolding_all rfl | kernel_rfl) (ldC (v := .ref x) hn (by first | rfl | with_unfolding_all rfl | kernel_rfl) ?_)
  refine set_plain X₁ (ox := excO C t0) (od := none) ⟨hx₁, rfl, rfl, trivial⟩ T.sa ?_
  refine er_osa X₁ hx₁ hcl rfl hbm rfl T.noN (fun h₃ tk₃ dx k₃ dn dne hx₃ hn₃ => ?_)
  show wpAny _ _ (execs _ _) _ _ _
  have z : s.heap.objs.size < h₁.objs.size := hn.lt
  exact wpAny_execs_nil (hq h₃ tk₃ dx ⟨fun b o hb e => k₃ b o hb (k b o e), hx₃, Nat.le_of_lt (Nat.lt_of_lt_of_le z dn), dne, hn₃⟩)
theorem madeP (T : Txt K mg cn qn C fI) {v : Value} (X : K.In s.heap) (hlim : s.heap.NoLimit) (hroom : A.depth + 1 < recursionLimit)
    (hq : ∀ h' tk e d, Made "at" s.heap h' e C d v → R (.ok (.ret (.ref e))) { s with heap := h', toks := tk }) :
    codeAny (model prog w) A (.call (.ref C) ⟨[v], []⟩) R s := by
  obtain ⟨nm, q, N, bs, bm, sn, sub, ab, col, dd, k0, k1, k2, k3, k5, hC, hbm⟩ := T.cls
  obtain ⟨hp, g, dr, tk, os⟩ := s
  have k : ∀ b o, hp.get? b = some o → ((hp.push (kdv_tup [v])).push (excO C hp.objs.size)).get? b = some o := fun b o e => Heap.get?_push_of_some _ (Heap.get?_push_of_some _ e)
  have hget : ((hp.push (kdv_tup [v])).push (excO C hp.objs.size)).get? (hp.objs.size + 1) = some (excO C hp.objs.size) := by heap_get
  have hnx : K.lookup (hp.objs.size + 1) = none := by
    cases e : K.lookup (hp.objs.size + 1) with
    | none => rfl
    | some o =>
      have z : hp.get? (hp.objs.size + 1) = some o := X _ _ e
      exact absurd (Nat.lt_of_succ_lt (Heap.lt_size z)) (Nat.lt_irrefl _)
  refine call_own F.excBase_Exception (fun X => excTail_contains X bm hbm) (X _ _ hC) (looks_findIn X T.iC) (fun self => bind_fn X self T.tC) (one_size v) ?_
  refine initP (s := ⟨(hp.push (kdv_tup [v])).push (excO C hp.objs.size), g, dr, tk, os⟩) T (.inl rfl) (X.keeps k) (hlim.keeps k) hget hnx ?_ fun h' tk' dx ⟨k', hx, dn, dne, hns⟩ => ?_
  · show A.depth + 1 < recursionLimit
    exact hroom
  · have old : ∀ b o, hp.get? b = some o → h'.get? b = some o := fun b o e => k' b o (Nat.ne_of_lt (Nat.lt_succ_of_lt (Heap.lt_size e))) (k b o e)
    have z : hp.objs.size + 1 + 1 ≤ dx := by
      first
        | (simpa only [Heap.size_push] using dn)
        | exact dn
        | (have q := dn; rw [Heap.size_push, Heap.size_push] at q; exact q)
    exact ⟨rfl, hq h' tk' (hp.objs.size + 1) dx ⟨old, Nat.le_succ _, ⟨_, _, hx, rfl, rfl, rfl, rfl⟩, Nat.le_trans (Nat.le_trans (Nat.le_succ _) (Nat.le_succ _)) z, dne, hns⟩⟩
theorem madeK (T : Txt K mg cn qn C fI) {v : Value} (X : K.In s.heap) (hlim : s.heap.NoLimit) (hroom : A.depth + 1 < recursionLimit)
    (hq : ∀ h' tk e d, Made "at" s.heap h' e C d v → R (.ok (.ret (.ref e))) { s with heap := h', toks := tk }) :
    codeAny (model prog w) A (.call (.ref C) ⟨[], [("at", v)]⟩) R s := by
  obtain ⟨nm, q, N, bs, bm, sn, sub, ab, col, dd, k0, k1, k2, k3, k5, hC, hbm⟩ := T.cls
  obtain ⟨hp, g, dr, tk, os⟩ := s
  have k : ∀ b o, hp.get? b = some o → ((hp.push (kdv_tup [])).push (excO C hp.objs.size)).get? b = some o := fun b o e => Heap.get?_push_of_some _ (Heap.get?_push_of_some _ e)
  have hget : ((hp.push (kdv_tup [])).push (excO C hp.objs.size)).get? (hp.objs.size + 1) = some (excO C hp.objs.size) := by heap_get
  have hnx : K.lookup (hp.objs.size + 1) = none := by
    cases e : K.lookup (hp.objs.size + 1) with
    | none => rfl
    | some o =>
      have z : hp.get? (hp.objs.size + 1) = some o := X _ _ e
      exact absurd (Nat.lt_of_succ_lt (Heap.lt_size z)) (Nat.lt_irrefl _)
  refine XK.call_kw F.excBase_Exception (fun X => excTail_contains X bm hbm) (X _ _ hC) (looks_findIn X T.iC) (fun self => bind_fn X self T.tC) ?_
  refine initP (s := ⟨(hp.push (kdv_tup [])).push (excO C hp.objs.size), g, dr, tk, os⟩) T (.inr rfl) (X.keeps k) (hlim.keeps k) hget hnx ?_ fun h' tk' dx ⟨k', hx, dn, dne, hns⟩ => ?_
  · show A.depth + 1 < recursionLimit
    exact hroom
  · have old : ∀ b o, hp.get? b = some o → h'.get? b = some o := fun b o e => k' b o (Nat.ne_of_lt (Nat.lt_succ_of_lt (Heap.lt_size e))) (k b o e)
    have z : hp.objs.size + 1 + 1 ≤ dx := by
      first
        | (simpa only [Heap.size_push] using dn)
        | exact dn
        | (have q := dn; rw [Heap.size_push, Heap.size_push] at q; exact q)
    exact ⟨rfl, hq h' tk' (hp.objs.size + 1) dx ⟨old, Nat.le_succ _, ⟨_, _, hx, rfl, rfl, rfl, rfl⟩, Nat.le_trans (Nat.le_trans (Nat.le_succ _) (Nat.le_succ _)) z, dne, hns⟩⟩
theorem ok (T : Txt K mg cn qn C fI) : MkOk K mg cn C "at" := ⟨T.gC, T.kC, fun a b c d => madeP T a b c d, fun a b c d => madeK T a b c d⟩
end
end XF_at
namespace XF_path
open PySem PySem.Spec PySem.W PySem.Calls PyProof.Rows PySem.HandSPX XB ErX
def iA (p1 p2 : Pos) : Arguments := { posonlyargs := [], args := [{ arg := "self", annotation := none, pos := p1 }, { arg := "path", annotation := none, pos := p2 }], vararg := none, kwonlyargs := [], kw_defaults := [], kwarg := none, defaults := [] }
def iB (q1 q2 q3 q4 : Pos) : List Stmt := [.Assign [.Attribute (.Name "self" q1) "path" q2] (.Name "path" q3) q4]
def iS : Scope := { kind := .function, names := [(PySem.Str.ofString "self", .local), (PySem.Str.ofString "path", .local)], isGenerator := false, isCoroutine := false, more := [] }
structure Txt (K : Frag) (mg : Str → Option Value) (cn qn : Str) (C fI : Addr) : Prop where
  gC : mg cn = some (.ref C)
  cls : ∃ nm q N bs bm sn sub ab col dd k0 k1 k2 k3 k5, K.lookup C = some (excClassObj nm q C N bs bm true sn sub ab col dd k0 k1 k2 k3 k5 "Exception.__new__") ∧ excTail exT bm = true
  sa : findIn K (.ref C) "__setattr__" = some (some (.builtin "object.__setattr__"))
  noN : findIn K (.ref C) "path" = some none
  iC : findIn K (.ref C) "__init__" = some (some (.ref fI))
  tC : typeIn K (.ref fI) = some (.type "function")
  kC : keepIn K (.ref C) = true
  fn : ∃ (oc : Value) (od : Option Addr) (doc pm : Value) (an : Option Addr) (cdv ct : Value) (osl : Array (Option Value)) (p1 p2 q1 q2 q3 q4 : Pos),
    K.lookup fI = some ⟨oc, od, .func (fnOf "__init__" qn (iA p1 p2) (iB q1 q2 q3 q4) iS .none .none doc pm an cdv ct), osl⟩ ∧ codeIn K cdv qn = true
section
variable {prog : Program} {w : World} {A : Around} {E : Value → Shared → Prop} {R : Result → Shared → Prop} {s : Shared} {K : Frag} {mg : Str → Option Value} {cn qn : Str} {C fI : Addr}
theorem initP (T : Txt K mg cn qn C fI) {x t0 : Addr} {v : Value} {args : Args} (hargs : args = ⟨[.ref x, v], []⟩ ∨ args = ⟨[.ref x], [("path", v)]⟩) (X : K.In s.heap) (hlim : s.heap.NoLimit) (hx : s.heap.get? x = some (excO C t0)) (hnx : K.lookup x = none) (hroom : A.depth < recursionLimit)
    (hq : ∀ h' tk dx, InitEnd "path" s.heap h' x C dx t0 v → R (.ok (.ret .none)) { s with heap := h', toks := tk }) :
    codeAny (model prog w) A (.call (.ref fI) args) R s := by
  obtain ⟨oc, od, doc, pm, an, cdv, ct, osl, p1, p2, q1, q2, q3, q4, ho, hcd⟩ := T.fn
  obtain ⟨nm, q, N, bs, bm, sn, sub, ab, col, dd, k0, k1, k2, k3, k5, hC, hbm⟩ := T.cls
  have hcl : clsIn K C = some { name := nm, bases := bs, mro := .ref C :: bm, ns := N, qualname := q, hasDict := true, slotNames := sn, subclasses := sub, abstract := ab, collection := col, hasDel := false } := by unfold clsIn; rw [hC] <;> rfl
  refine Att.call_fn (binds := [("self", .ref x), ("path", v)]) X hlim ho hcd hroom (BindsTo.of_eq (by rcases hargs with rfl | rfl <;> first | rfl | with_unfolding_all rfl)) (by first | rfl | decide | with_unfolding_all rfl) (fun s₁ IC => ?_) rfl rfl rfl
  obtain ⟨h₁, tk₁, rfl⟩ := IC.toInCall.same
  have k : ∀ b o, s.heap.get? b = some o → h₁.get? b = some o := IC.toInCall.keep
  have hn := IC.toInCall.ns
  have hxL : s.heap.objs.size ≠ x := Nat.ne_of_gt (Heap.lt_size hx)
  have X₁ : K.In h₁ := X.keeps k
  have hx₁ := k _ _ hx
  show wpAny _ _ (execs _ _) _ _ _
  refine wpAny_execs_cons (plainObj_wpAny_Assign_Attribute ?_)
  refine ldC (v := v) hn (by first | rfl | with_unfolding_all rfl | kernel_rfl) (ldC (v := .ref x) hn (by first | rfl | with_unfolding_all rfl | kernel_rfl) ?_)
  refine set_plain X₁ (ox := excO C t0) (od := none) ⟨hx₁, rfl, rfl, trivial⟩ T.sa ?_
  refine er_osa X₁ hx₁ hcl rfl hbm rfl T.noN (fun h₃ tk₃ dx k₃ dn dne hx₃ hn₃ => ?_)
  show wpAny _ _ (execs _ _) _ _ _
  have z : s.heap.objs.size < h₁.objs.size := hn.lt
  exact wpAny_execs_nil (hq h₃ tk₃ dx ⟨fun b o hb e => k₃ b o hb (k b o e), hx₃, Nat.le_of_lt (Nat.lt_of_lt_of_le z dn), dne, hn₃⟩)
theorem madeP (T : Txt K mg cn qn C fI) {v : Value} (X : K.In s.heap) (hlim : s.heap.NoLimit) (hroom : A.depth + 1 < recursionLimit)
    (hq : ∀ h' tk e d, Made "path" s.heap h' e C d v → R (.ok (.ret (.ref e))) { s with heap := h', toks := tk }) :
    codeAny (model prog w) A (.call (.ref C) ⟨[v], []⟩) R s := by
  obtain ⟨nm, q, N, bs, bm, sn, sub, ab, col, dd, k0, k1, k2, k3, k5, hC, hbm⟩ := T.cls
  obtain ⟨hp, g, dr, tk, os⟩ := s
  have k : ∀ b o, hp.get? b = some o → ((hp.push (kdv_tup [v])).push (excO C hp.objs.size)).get? b = some o := fun b o e => Heap.get?_push_of_some _ (Heap.get?_push_of_some _ e)
  have hget : ((hp.push (kdv_tup [v])).push (excO C hp.objs.size)).get? (hp.objs.size + 1) = some (excO C hp.objs.size) := by heap_get
  have hnx : K.lookup (hp.objs.size + 1) = none := by
    cases e : K.lookup (hp.objs.size + 1) with
    | none => rfl
    | some o =>
      have z : hp.get? (hp.objs.size + 1) = some o := X _ _ e
      exact absurd (Nat.lt_of_succ_lt (Heap.lt_size z)) (Nat.lt_irrefl _)
  refine call_own F.excBase_Exception (fun X => excTail_contains X bm hbm) (X _ _ hC) (looks_findIn X T.iC) (fun self => bind_fn X self T.tC) (one_size v) ?_
  refine initP (s := ⟨(hp.push (kdv_tup [v])).push (excO C hp.objs.size), g, dr, tk, os⟩) T (.inl rfl) (X.keeps k) (hlim.keeps k) hget hnx ?_ fun h' tk' dx ⟨k', hx, dn, dne, hns⟩ => ?_
  · show A.depth + 1 < recursionLimit
    exact hroom
  · have old : ∀ b o, hp.get? b = some o → h'.get? b = some o := fun b o e => k' b o (Nat.ne_of_lt (Nat.lt_succ_of_lt (Heap.lt_size e))) (k b o e)
    have z : hp.objs.size + 1 + 1 ≤ dx := by
      first
        | (simpa only [Heap.size_push] using dn)
        | exact dn
        | (have q := dn; rw [Heap.size_push, Heap.size_push] at q; exact q)
    exact ⟨rfl, hq h' tk' (hp.objs.size + 1) dx ⟨old, Nat.le_succ _, ⟨_, _, hx, rfl, rfl, rfl, rfl⟩, Nat.le_trans (Nat.le_trans (Nat.le_succ _) (Nat.le_succ _)) z, dne, hns⟩⟩
theorem madeK (T : Txt K mg cn qn C fI) {v : Value} (X : K.In s.heap) (hlim : s.heap.NoLimit) (hroom : A.depth + 1 < recursionLimit)
    (hq : ∀ h' tk e d, Made "path" s.heap h' e C d v → R (.ok (.ret (.ref e))) { s with heap := h', toks := tk }) :
    codeAny (model prog w) A (.call (.ref C) ⟨[], [("path", v)]⟩) R s := by
  obtain ⟨nm, q, N, bs, bm, sn, sub, ab, col, dd, k0, k1, k2, k3, k5, hC, hbm⟩ := T.cls
  obtain ⟨hp, g, dr, tk, os⟩ := s
  have k : ∀ b o, hp.get? b = some o → ((hp.push (kdv_tup [])).push (excO C hp.objs.size)).get? b = some o := fun b o e => Heap.get?_push_of_some _ (Heap.get?_push_of_some _ e)
  have hget : ((hp.push (kdv_tup [])).push (excO C hp.objs.size)).get? (hp.objs.size + 1) = some (excO C hp.objs.size) := by heap_get
  have hnx : K.lookup (hp.objs.size + 1) = none := by
    cases e : K.lookup (hp.objs.size + 1) with
    | none => rfl
    | some o =>
      have z : hp.get? (hp.objs.size + 1) = some o := X _ _ e
      exact absurd (Nat.lt_of_succ_lt (Heap.lt_size z)) (Nat.lt_irrefl _)
  refine XK.call_kw F.excBase_Exception (fun X => excTail_contains X bm hbm) (X _ _ hC) (looks_findIn X T.iC) (fun self => bind_fn X self T.tC) ?_
  refine initP (s := ⟨(hp.push (kdv_tup [])).push (excO C hp.objs.size), g, dr, tk, os⟩) T (.inr rfl) (X.keeps k) (hlim.keeps k) hget hnx ?_ fun h' tk' dx ⟨k', hx, dn, dne, hns⟩ => ?_
  · show A.depth + 1 < recursionLimit
    exact hroom
  · have old : ∀ b o, hp.get? b = some o → h'.get? b = some o := fun b o e => k' b o (Nat.ne_of_lt (Nat.lt_succ_of_lt (Heap.lt_size e))) (k b o e)
    have z : hp.objs.size + 1 + 1 ≤ dx := by
      first
        | (simpa only [Heap.size_push] using dn)
        | exact dn
        | (have q := dn; rw [Heap.size_push, Heap.size_push] at q; exact q)
    exact ⟨rfl, hq h' tk' (hp.objs.size + 1) dx ⟨old, Nat.le_succ _, ⟨_, _, hx, rfl, rfl, rfl, rfl⟩, Nat.le_trans (Nat.le_trans (Nat.le_succ _) (Nat.le_succ _)) z, dne, hns⟩⟩
theorem ok (T : Txt K mg cn qn C fI) : MkOk K mg cn C "path" := ⟨T.gC, T.kC, fun a b c d => madeP T a b c d, fun a b c d => madeK T a b c d⟩
end
end XF_path
namespace XF_name
open PySem PySem.Spec PySem.W PySem.Calls PyProof.Rows PySem.HandSPX XB ErX
def iA (p1 p2 : Pos) : Arguments := { posonlyargs := [], args := [{ arg := "self", annotation := none, pos := p1 }, { arg := "name", annotation := none, pos := p2 }], vararg := none, kwonlyargs := [], kw_defaults := [], kwarg := none, defaults := [] }
def iB (q1 q2 q3 q4 : Pos) : List Stmt := [.Assign [.Attribute (.Name "self" q1) "name" q2] (.Name "name" q3) q4]
def iS : Scope := { kind := .function, names := [(PySem.Str.ofString "self", .local), (PySem.Str.ofString "name", .local)], isGenerator := false, isCoroutine := false, more := [] }
structure Txt (K : Frag) (mg : Str → Option Value) (cn qn : Str) (C fI : Addr) : Prop where
  gC : mg cn = some (.ref C)
  cls : ∃ nm q N bs bm sn sub ab col dd k0 k1 k2 k3 k5, K.lookup C = some (excClassObj nm q C N bs bm true sn sub ab col dd k0 k1 k2 k3 k5 "Exception.__new__") ∧ excTail exT bm = true
  sa : findIn K (.ref C) "__setattr__" = some (some (.builtin "object.__setattr__"))
  noN : findIn K (.ref C) "name" = some none
  iC : findIn K (.ref C) "__init__" = some (some (.ref fI))
  tC : typeIn K (.ref fI) = some (.type "function")
  kC : keepIn K (.ref C) = true
  fn : ∃ (oc : Value) (od : Option Addr) (doc pm : Value) (an : Option Addr) (cdv ct : Value) (osl : Array (Option Value)) (p1 p2 q1 q2 q3 q4 : Pos),
    K.lookup fI = some ⟨oc, od, .func (fnOf "__init__" qn (iA p1 p2) (iB q1 q2 q3 q4) iS .none .none doc pm an cdv ct), osl⟩ ∧ codeIn K cdv qn = true
section
variable {prog : Program} {w : World} {A : Around} {E : Value → Shared → Prop} {R : Result → Shared → Prop} {s : Shared} {K : Frag} {mg : Str → Option Value} {cn qn : Str} {C fI : Addr}
theorem initP (T : Txt K mg cn qn C fI) {x t0 : Addr} {v : Value} {args : Args} (hargs : args = ⟨[.ref x, v], []⟩ ∨ args = ⟨[.ref x], [("name", v)]⟩) (X : K.In s.heap) (hlim : s.heap.NoLimit) (hx : s.heap.get? x = some (excO C t0)) (hnx : K.lookup x = none) (hroom : A.depth < recursionLimit)
    (hq : ∀ h' tk dx, InitEnd "name" s.heap h' x C dx t0 v → R (.ok (.ret .none)) { s with heap := h', toks := tk }) :
    codeAny (model prog w) A (.call (.ref fI) args) R s := by
  obtain ⟨oc, od, doc, pm, an, cdv, ct, osl, p1, p2, q1, q2, q3, q4, ho, hcd⟩ := T.fn
  obtain ⟨nm, q, N, bs, bm, sn, sub, ab, col, dd, k0, k1, k2, k3, k5, hC, hbm⟩ := T.cls
  have hcl : clsIn K C = some { name := nm, bases := bs, mro := .ref C :: bm, ns := N, qualname := q, hasDict := true, slotNames := sn, subclasses := sub, abstract := ab, collection := col, hasDel := false } := by unfold clsIn; rw [hC] <;> rfl
  refine Att.call_fn (binds := [("self", .ref x), ("name", v)]) X hlim ho hcd hroom (BindsTo.of_eq (by rcases hargs with rfl | rfl <;> first | rfl | with_unfolding_all rfl)) (by first | rfl | decide | with_unfolding_all rfl) (fun s₁ IC => ?_) rfl rfl rfl
  obtain ⟨h₁, tk₁, rfl⟩ := IC.toInCall.same
  have k : ∀ b o, s.heap.get? b = some o → h₁.get? b = some o := IC.toInCall.keep
  have hn := IC.toInCall.ns
  have hxL : s.heap.objs.size ≠ x := Nat.ne_of_gt (Heap.lt_size hx)
  have X₁ : K.In h₁ := X.keeps k
  have hx₁ := k _ _ hx
  show wpAny _ _ (execs _ _) _ _ _
  refine wpAny_execs_cons (plainObj_wpAny_Assign_Attribute ?_)
  refine ldC (v := v) hn (by first | rfl | with_unfolding_all rfl | kernel_rfl) (ldC (v := .ref x) hn (by first | rfl | with_unfolding_all rfl | kernel_rfl) ?_)
  refine set_plain X₁ (ox := excO C t0) (od := none) ⟨hx₁, rfl, rfl, trivial⟩ T.sa ?_
  refine er_osa X₁ hx₁ hcl rfl hbm rfl T.noN (fun h₃ tk₃ dx k₃ dn dne hx₃ hn₃ => ?_)
  show wpAny _ _ (execs _ _) _ _ _
  have z : s.heap.objs.size < h₁.objs.size := hn.lt
  exact wpAny_execs_nil (hq h₃ tk₃ dx ⟨fun b o hb e => k₃ b o hb (k b o e), hx₃, Nat.le_of_lt (Nat.lt_of_lt_of_le z dn), dne, hn₃⟩)
theorem madeP (T : Txt K mg cn qn C fI) {v : Value} (X : K.In s.heap) (hlim : s.heap.NoLimit) (hroom : A.depth + 1 < recursionLimit)
    (hq : ∀ h' tk e d, Made "name" s.heap h' e C d v → R (.ok (.ret (.ref e))) { s with heap := h', toks := tk }) :
    codeAny (model prog w) A (.call (.ref C) ⟨[v], []⟩) R s := by
  obtain ⟨nm, q, N, bs, bm, sn, sub, ab, col, dd, k0, k1, k2, k3, k5, hC, hbm⟩ := T.cls
  obtain ⟨hp, g, dr, tk, os⟩ := s
  have k : ∀ b o, hp.get? b = some o → ((hp.push (kdv_tup [v])).push (excO C hp.objs.size)).get? b = some o := fun b o e => Heap.get?_push_of_some _ (Heap.get?_push_of_some _ e)
  have hget : ((hp.push (kdv_tup [v])).push (excO C hp.objs.size)).get? (hp.objs.size + 1) = some (excO C hp.objs.size) := by heap_get
  have hnx : K.lookup (hp.objs.size + 1) = none := by
    cases e : K.lookup (hp.objs.size + 1) with
    | none => rfl
    | some o =>
      have z : hp.get? (hp.objs.size + 1) = some o := X _ _ e
      exact absurd (Nat.lt_of_succ_lt (Heap.lt_size z)) (Nat.lt_irrefl _)
  refine call_own F.excBase_Exception (fun X => excTail_contains X bm hbm) (X _ _ hC) (looks_findIn X T.iC) (fun self => bind_fn X self T.tC) (one_size v) ?_
  refine initP (s := ⟨(hp.push (kdv_tup [v])).push (excO C hp.objs.size), g, dr, tk, os⟩) T (.inl rfl) (X.keeps k) (hlim.keeps k) hget hnx ?_ fun h' tk' dx ⟨k', hx, dn, dne, hns⟩ => ?_
  · show A.depth + 1 < recursionLimit
    exact hroom
  · have old : ∀ b o, hp.get? b = some o → h'.get? b = some o := fun b o e => k' b o (Nat.ne_of_lt (Nat.lt_succ_of_lt (Heap.lt_size e))) (k b o e)
    have z : hp.objs.size + 1 + 1 ≤ dx := by
      first
        | (simpa only [Heap.size_push] using dn)
        | exact dn
        | (have q := dn; rw [Heap.size_push, Heap.size_push] at q; exact q)
    exact ⟨rfl, hq h' tk' (hp.objs.size + 1) dx ⟨old, Nat.le_succ _, ⟨_, _, hx, rfl, rfl, rfl, rfl⟩, Nat.le_trans (Nat.le_trans (Nat.le_succ _) (Nat.le_succ _)) z, dne, hns⟩⟩
theorem madeK (T : Txt K mg cn qn C fI) {v : Value} (X : K.In s.heap) (hlim : s.heap.NoLimit) (hroom : A.depth + 1 < recursionLimit)
    (hq : ∀ h' tk e d, Made "name" s.heap h' e C d v → R (.ok (.ret (.ref e))) { s with heap := h', toks := tk }) :
    codeAny (model prog w) A (.call (.ref C) ⟨[], [("name", v)]⟩) R s := by
  obtain ⟨nm, q, N, bs, bm, sn, sub, ab, col, dd, k0, k1, k2, k3, k5, hC, hbm⟩ := T.cls
  obtain ⟨hp, g, dr, tk, os⟩ := s
  have k : ∀ b o, hp.get? b = some o → ((hp.push (kdv_tup [])).push (excO C hp.objs.size)).get? b = some o := fun b o e => Heap.get?_push_of_some _ (Heap.get?_push_of_some _ e)
  have hget : ((hp.push (kdv_tup [])).push (excO C hp.objs.size)).get? (hp.objs.size + 1) = some (excO C hp.objs.size) := by heap_get
  have hnx : K.lookup (hp.objs.size + 1) = none := by
    cases e : K.lookup (hp.objs.size + 1) with
    | none => rfl
    | some o =>
      have z : hp.get? (hp.objs.size + 1) = some o := X _ _ e
      exact absurd (Nat.lt_of_succ_lt (Heap.lt_size z)) (Nat.lt_irrefl _)
  refine XK.call_kw F.excBase_Exception (fun X => excTail_contains X bm hbm) (X _ _ hC) (looks_findIn X T.iC) (fun self => bind_fn X self T.tC) ?_
  refine initP (s := ⟨(hp.push (kdv_tup [])).push (excO C hp.objs.size), g, dr, tk, os⟩) T (.inr rfl) (X.keeps k) (hlim.keeps k) hget hnx ?_ fun h' tk' dx ⟨k', hx, dn, dne, hns⟩ => ?_
  · show A.depth + 1 < recursionLimit
    exact hroom
  · have old : ∀ b o, hp.get? b = some o → h'.get? b = some o := fun b o e => k' b o (Nat.ne_of_lt (Nat.lt_succ_of_lt (Heap.lt_size e))) (k b o e)
    have z : hp.objs.size + 1 + 1 ≤ dx := by
      first
        | (simpa only [Heap.size_push] using dn)
        | exact dn
        | (have q := dn; rw [Heap.size_push, Heap.size_push] at q; exact q)
    exact ⟨rfl, hq h' tk' (hp.objs.size + 1) dx ⟨old, Nat.le_succ _, ⟨_, _, hx, rfl, rfl, rfl, rfl⟩, Nat.le_trans (Nat.le_trans (Nat.le_succ _) (Nat.le_succ _)) z, dne, hns⟩⟩
theorem ok (T : Txt K mg cn qn C fI) : MkOk K mg cn C "name" := ⟨T.gC, T.kC, fun a b c d => madeP T a b c d, fun a b c d => madeK T a b c d⟩
end
end XF_name
namespace XF_word
open PySem PySem.Spec PySem.W PySem.Calls PyProof.Rows PySem.HandSPX XB ErX
def iA (p1 p2 : Pos) : Arguments := { posonlyargs := [], args := [{ arg := "self", annotation := none, pos := p1 }, { arg := "word", annotation := none, pos := p2 }], vararg := none, kwonlyargs := [], kw_defaults := [], kwarg := none, defaults := [] }
def iB (q1 q2 q3 q4 : Pos) : List Stmt := [.Assign [.Attribute (.Name "self" q1) "word" q2] (.Name "word" q3) q4]
def iS : Scope := { kind := .function, names := [(PySem.Str.ofString "self", .local), (PySem.Str.ofString "word", .local)], isGenerator := false, isCoroutine := false, more := [] }
structure Txt (K : Frag) (mg : Str → Option Value) (cn qn : Str) (C fI : Addr) : Prop where
  gC : mg cn = some (.ref C)
  cls : ∃ nm q N bs bm sn sub ab col dd k0 k1 k2 k3 k5, K.lookup C = some (excClassObj nm q C N bs bm true sn sub ab col dd k0 k1 k2 k3 k5 "Exception.__new__") ∧ excTail exT bm = true
  sa : findIn K (.ref C) "__setattr__" = some (some (.builtin "object.__setattr__"))
  noN : findIn K (.ref C) "word" = some none
  iC : findIn K (.ref C) "__init__" = some (some (.ref fI))
  tC : typeIn K (.ref fI) = some (.type "function")
  kC : keepIn K (.ref C) = true
  fn : ∃ (oc : Value) (od : Option Addr) (doc pm : Value) (an : Option Addr) (cdv ct : Value) (osl : Array (Option Value)) (p1 p2 q1 q2 q3 q4 : Pos),
    K.lookup fI = some ⟨oc, od, .func (fnOf "__init__" qn (iA p1 p2) (iB q1 q2 q3 q4) iS .none .none doc pm an cdv ct), osl⟩ ∧ codeIn K cdv qn = true
section
variable {prog : Program} {w : World} {A : Around} {E : Value → Shared → Prop} {R : Result → Shared → Prop} {s : Shared} {K : Frag} {mg : Str → Option Value} {cn qn : Str} {C fI : Addr}
theorem initP (T : Txt K mg cn qn C fI) {x t0 : Addr} {v : Value} {args : Args} (hargs : args = ⟨[.ref x, v], []⟩ ∨ args = ⟨[.ref x], [("word", v)]⟩) (X : K.In s.heap) (hlim : s.heap.NoLimit) (hx : s.heap.get? x = some (excO C t0)) (hnx : K.lookup x = none) (hroom : A.depth < recursionLimit)
    (hq : ∀ h' tk dx, InitEnd "word" s.heap h' x C dx t0 v → R (.ok (.ret .none)) { s with heap := h', toks := tk }) :
    codeAny (model prog w) A (.call (.ref fI) args) R s := by
  obtain ⟨oc, od, doc, pm, an, cdv, ct, osl, p1, p2, q1, q2, q3, q4, ho, hcd⟩ := T.fn
  obtain ⟨nm, q, N, bs, bm, sn, sub, ab, col, dd, k0, k1, k2, k3, k5, hC, hbm⟩ := T.cls
  have hcl : clsIn K C = some { name := nm, bases := bs, mro := .ref C :: bm, ns := N, qualname := q, hasDict := true, slotNames := sn, subclasses := sub, abstract := ab, collection := col, hasDel := false } := by unfold clsIn; rw [hC] <;> rfl
  refine Att.call_fn (binds := [("self", .ref x), ("word", v)]) X hlim ho hcd hroom (BindsTo.of_eq (by rcases hargs with rfl | rfl <;> first | rfl | with_unfolding_all rfl)) (by first | rfl | decide | with_unfolding_all rfl) (fun s₁ IC => ?_) rfl rfl rfl
  obtain ⟨h₁, tk₁, rfl⟩ := IC.toInCall.same
  have k : ∀ b o, s.heap.get? b = some o → h₁.get? b = some o := IC.toInCall.keep
  have hn := IC.toInCall.ns
  have hxL : s.heap.objs.size ≠ x := Nat.ne_of_gt (Heap.lt_size hx)
  have X₁ : K.In h₁ := X.keeps k
  have hx₁ := k _ _ hx
  show wpAny _ _ (execs _ _) _ _ _
  refine wpAny_execs_cons (plainObj_wpAny_Assign_Attribute ?_)
  refine ldC (v := v) hn (by first | rfl | with_unfolding_all rfl | kernel_rfl) (ldC (v := .ref x) hn (by first | rfl | with_unfolding_all rfl | kernel_rfl) ?_)
  refine set_plain X₁ (ox := excO C t0) (od := none) ⟨hx₁, rfl, rfl, trivial⟩ T.sa ?_
  refine er_osa X₁ hx₁ hcl rfl hbm rfl T.noN (fun h₃ tk₃ dx k₃ dn dne hx₃ hn₃ => ?_)
  show wpAny _ _ (execs _ _) _ _ _
  have z : s.heap.objs.size < h₁.objs.size := hn.lt
  exact wpAny_execs_nil (hq h₃ tk₃ dx ⟨fun b o hb e => k₃ b o hb (k b o e), hx₃, Nat.le_of_lt (Nat.lt_of_lt_of_le z dn), dne, hn₃⟩)
theorem madeP (T : Txt K mg cn qn C fI) {v : Value} (X : K.In s.heap) (hlim : s.heap.NoLimit) (hroom : A.depth + 1 < recursionLimit)
    (hq : ∀ h' tk e d, Made "word" s.heap h' e C d v → R (.ok (.ret (.ref e))) { s with heap := h', toks := tk }) :
    codeAny (model prog w) A (.call (.ref C) ⟨[v], []⟩) R s := by
  obtain ⟨nm, q, N, bs, bm, sn, sub, ab, col, dd, k0, k1, k2, k3, k5, hC, hbm⟩ := T.cls
  obtain ⟨hp, g, dr, tk, os⟩ := s
  have k : ∀ b o, hp.get? b = some o → ((hp.push (kdv_tup [v])).push (excO C hp.objs.size)).get? b = some o := fun b o e => Heap.get?_push_of_some _ (Heap.get?_push_of_some _ e)
  have hget : ((hp.push (kdv_tup [v])).push (excO C hp.objs.size)).get? (hp.objs.size + 1) = some (excO C hp.objs.size) := by heap_get
  have hnx : K.lookup (hp.objs.size + 1) = none := by
    cases e : K.lookup (hp.objs.size + 1) with
    | none => rfl
    | some o =>
      have z : hp.get? (hp.objs.size + 1) = some o := X _ _ e
      exact absurd (Nat.lt_of_succ_lt (Heap.lt_size z)) (Nat.lt_irrefl _)
  refine call_own F.excBase_Exception (fun X => excTail_contains X bm hbm) (X _ _ hC) (looks_findIn X T.iC) (fun self => bind_fn X self T.tC) (one_size v) ?_
  refine initP (s := ⟨(hp.push (kdv_tup [v])).push (excO C hp.objs.size), g, dr, tk, os⟩) T (.inl rfl) (X.keeps k) (hlim.keeps k) hget hnx ?_ fun h' tk' dx ⟨k', hx, dn, dne, hns⟩ => ?_
  · show A.depth + 1 < recursionLimit
    exact hroom
  · have old : ∀ b o, hp.get? b = some o → h'.get? b = some o := fun b o e => k' b o (Nat.ne_of_lt (Nat.lt_succ_of_lt (Heap.lt_size e))) (k b o e)
    have z : hp.objs.size + 1 + 1 ≤ dx := by
      first
        | (simpa only [Heap.size_push] using dn)
        | exact dn
        | (have q := dn; rw [Heap.size_push, Heap.size_push] at q; exact q)
    exact ⟨rfl, hq h' tk' (hp.objs.size + 1) dx ⟨old, Nat.le_succ _, ⟨_, _, hx, rfl, rfl, rfl, rfl⟩, Nat.le_trans (Nat.le_trans (Nat.le_succ _) (Nat.le_succ _)) z, dne, hns⟩⟩
theorem madeK (T : Txt K mg cn qn C fI) {v : Value} (X : K.In s.heap) (hlim : s.heap.NoLimit) (hroom : A.depth + 1 < recursionLimit)
    (hq : ∀ h' tk e d, Made "word" s.heap h' e C d v → R (.ok (.ret (.ref e))) { s with heap := h', toks := tk }) :
    codeAny (model prog w) A (.call (.ref C) ⟨[], [("word", v)]⟩) R s := by
  obtain ⟨nm, q, N, bs, bm, sn, sub, ab, col, dd, k0, k1, k2, k3, k5, hC, hbm⟩ := T.cls
  obtain ⟨hp, g, dr, tk, os⟩ := s
  have k : ∀ b o, hp.get? b = some o → ((hp.push (kdv_tup [])).push (excO C hp.objs.size)).get? b = some o := fun b o e => Heap.get?_push_of_some _ (Heap.get?_push_of_some _ e)
  have hget : ((hp.push (kdv_tup [])).push (excO C hp.objs.size)).get? (hp.objs.size + 1) = some (excO C hp.objs.size) := by heap_get
  have hnx : K.lookup (hp.objs.size + 1) = none := by
    cases e : K.lookup (hp.objs.size + 1) with
    | none => rfl
    | some o =>
      have z : hp.get? (hp.objs.size + 1) = some o := X _ _ e
      exact absurd (Nat.lt_of_succ_lt (Heap.lt_size z)) (Nat.lt_irrefl _)
  refine XK.call_kw F.excBase_Exception (fun X => excTail_contains X bm hbm) (X _ _ hC) (looks_findIn X T.iC) (fun self => bind_fn X self T.tC) ?_
  refine initP (s := ⟨(hp.push (kdv_tup [])).push (excO C hp.objs.size), g, dr, tk, os⟩) T (.inr rfl) (X.keeps k) (hlim.keeps k) hget hnx ?_ fun h' tk' dx ⟨k', hx, dn, dne, hns⟩ => ?_
  · show A.depth + 1 < recursionLimit
    exact hroom
  · have old : ∀ b o, hp.get? b = some o → h'.get? b = some o := fun b o e => k' b o (Nat.ne_of_lt (Nat.lt_succ_of_lt (Heap.lt_size e))) (k b o e)
    have z : hp.objs.size + 1 + 1 ≤ dx := by
      first
        | (simpa only [Heap.size_push] using dn)
        | exact dn
        | (have q := dn; rw [Heap.size_push, Heap.size_push] at q; exact q)
    exact ⟨rfl, hq h' tk' (hp.objs.size + 1) dx ⟨old, Nat.le_succ _, ⟨_, _, hx, rfl, rfl, rfl, rfl⟩, Nat.le_trans (Nat.le_trans (Nat.le_succ _) (Nat.le_succ _)) z, dne, hns⟩⟩
theorem ok (T : Txt K mg cn qn C fI) : MkOk K mg cn C "word" := ⟨T.gC, T.kC, fun a b c d => madeP T a b c d, fun a b c d => madeK T a b c d⟩
end
end XF_word
namespace XF_event
open PySem PySem.Spec PySem.W PySem.Calls PyProof.Rows PySem.HandSPX XB ErX
def iA (p1 p2 : Pos) : Arguments := { posonlyargs := [], args := [{ arg := "self", annotation := none, pos := p1 }, { arg := "event", annotation := none, pos := p2 }], vararg := none, kwonlyargs := [], kw_defaults := [], kwarg := none, defaults := [] }
def iB (q1 q2 q3 q4 : Pos) : List Stmt := [.Assign [.Attribute (.Name "self" q1) "event" q2] (.Name "event" q3) q4]
def iS : Scope := { kind := .function, names := [(PySem.Str.ofString "self", .local), (PySem.Str.ofString "event", .local)], isGenerator := false, isCoroutine := false, more := [] }
structure Txt (K : Frag) (mg : Str → Option Value) (cn qn : Str) (C fI : Addr) : Prop where
  gC : mg cn = some (.ref C)
  cls : ∃ nm q N bs bm sn sub ab col dd k0 k1 k2 k3 k5, K.lookup C = some (excClassObj nm q C N bs bm true sn sub ab col dd k0 k1 k2 k3 k5 "Exception.__new__") ∧ excTail exT bm = true
  sa : findIn K (.ref C) "__setattr__" = some (some (.builtin "object.__setattr__"))
  noN : findIn K (.ref C) "event" = some none
  iC : findIn K (.ref C) "__init__" = some (some (.ref fI))
  tC : typeIn K (.ref fI) = some (.type "function")
  kC : keepIn K (.ref C) = true
  fn : ∃ (oc : Value) (od : Option Addr) (doc pm : Value) (an : Option Addr) (cdv ct : Value) (osl : Array (Option Value)) (p1 p2 q1 q2 q3 q4 : Pos),
    K.lookup fI = some ⟨oc, od, .func (fnOf "__init__" qn (iA p1 p2) (iB q1 q2 q3 q4) iS .none .none doc pm an cdv ct), osl⟩ ∧ codeIn K cdv qn = true
section
variable {prog : Program} {w : World} {A : Around} {E : Value → Shared → Prop} {R : Result → Shared → Prop} {s : Shared} {K : Frag} {mg : Str → Option Value} {cn qn : Str} {C fI : Addr}
theorem initP (T : Txt K mg cn qn C fI) {x t0 : Addr} {v : Value} {args : Args} (hargs : args = ⟨[.ref x, v], []⟩ ∨ args = ⟨[.ref x], [("event", v)]⟩) (X : K.In s.heap) (hlim : s.heap.NoLimit) (hx : s.heap.get? x = some (excO C t0)) (hnx : K.lookup x = none) (hroom : A.depth < recursionLimit)
    (hq : ∀ h' tk dx, InitEnd "event" s.heap h' x C dx t0 v → R (.ok (.ret .none)) { s with heap := h', toks := tk }) :
    codeAny (model prog w) A (.call (.ref fI) args) R s := by
  obtain ⟨oc, od, doc, pm, an, cdv, ct, osl, p1, p2, q1, q2, q3, q4, ho, hcd⟩ := T.fn
  obtain ⟨nm, q, N, bs, bm, sn, sub, ab, col, dd, k0, k1, k2, k3, k5, hC, hbm⟩ := T.cls
  have hcl : clsIn K C = some { name := nm, bases := bs, mro := .ref C :: bm, ns := N, qualname := q, hasDict := true, slotNames := sn, subclasses := sub, abstract := ab, collection := col, hasDel := false } := by unfold clsIn; rw [hC] <;> rfl
  refine Att.call_fn (binds := [("self", .ref x), ("event", v)]) X hlim ho hcd hroom (BindsTo.of_eq (by rcases hargs with rfl | rfl <;> first | rfl | with_unfolding_all rfl)) (by first | rfl | decide | with_unfolding_all rfl) (fun s₁ IC => ?_) rfl rfl rfl
  obtain ⟨h₁, tk₁, rfl⟩ := IC.toInCall.same
  have k : ∀ b o, s.heap.get? b = some o → h₁.get? b = some o := IC.toInCall.keep
  have hn := IC.toInCall.ns
  have hxL : s.heap.objs.size ≠ x := Nat.ne_of_gt (Heap.lt_size hx)
  have X₁ : K.In h₁ := X.keeps k
  have hx₁ := k _ _ hx
  show wpAny _ _ (execs _ _) _ _ _
  refine wpAny_execs_cons (plainObj_wpAny_Assign_Attribute ?_)
  refine ldC (v := v) hn (by first | rfl | with_unfolding_all rfl | kernel_rfl) (ldC (v := .ref x) hn (by first | rfl | with_unfolding_all rfl | kernel_rfl) ?_)
  refine set_plain X₁ (ox := excO C t0) (od := none) ⟨hx₁, rfl, rfl, trivial⟩ T.sa ?_
  refine er_osa X₁ hx₁ hcl rfl hbm rfl T.noN (fun h₃ tk₃ dx k₃ dn dne hx₃ hn₃ => ?_)
  show wpAny _ _ (execs _ _) _ _ _
  have z : s.heap.objs.size < h₁.objs.size := hn.lt
  exact wpAny_execs_nil (hq h₃ tk₃ dx ⟨fun b o hb e => k₃ b o hb (k b o e), hx₃, Nat.le_of_lt (Nat.lt_of_lt_of_le z dn), dne, hn₃⟩)
theorem madeP (T : Txt K mg cn qn C fI) {v : Value} (X : K.In s.heap) (hlim : s.heap.NoLimit) (hroom : A.depth + 1 < recursionLimit)
    (hq : ∀ h' tk e d, Made "event" s.heap h' e C d v → R (.ok (.ret (.ref e))) { s with heap := h', toks := tk }) :
    codeAny (model prog w) A (.call (.ref C) ⟨[v], []⟩) R s := by
  obtain ⟨nm, q, N, bs, bm, sn, sub, ab, col, dd, k0, k1, k2, k3, k5, hC, hbm⟩ := T.cls
  obtain ⟨hp, g, dr, tk, os⟩ := s
  have k : ∀ b o, hp.get? b = some o → ((hp.push (kdv_tup [v])).push (excO C hp.objs.size)).get? b = some o := fun b o e => Heap.get?_push_of_some _ (Heap.get?_push_of_some _ e)
  have hget : ((hp.push (kdv_tup [v])).push (excO C hp.objs.size)).get? (hp.objs.size + 1) = some (excO C hp.objs.size) := by heap_get
  have hnx : K.lookup (hp.objs.size + 1) = none := by
    cases e : K.lookup (hp.objs.size + 1) with
    | none => rfl
    | some o =>
      have z : hp.get? (hp.objs.size + 1) = some o := X _ _ e
      exact absurd (Nat.lt_of_succ_lt (Heap.lt_size z)) (Nat.lt_irrefl _)
  refine call_own F.excBase_Exception (fun X => excTail_contains X bm hbm) (X _ _ hC) (looks_findIn X T.iC) (fun self => bind_fn X self T.tC) (one_size v) ?_
  refine initP (s := ⟨(hp.push (kdv_tup [v])).push (excO C hp.objs.size), g, dr, tk, os⟩) T (.inl rfl) (X.keeps k) (hlim.keeps k) hget hnx ?_ fun h' tk' dx ⟨k', hx, dn, dne, hns⟩ => ?_
  · show A.depth + 1 < recursionLimit
    exact hroom
  · have old : ∀ b o, hp.get? b = some o → h'.get? b = some o := fun b o e => k' b o (Nat.ne_of_lt (Nat.lt_succ_of_lt (Heap.lt_size e))) (k b o e)
    have z : hp.objs.size + 1 + 1 ≤ dx := by
      first
        | (simpa only [Heap.size_push] using dn)
        | exact dn
        | (have q := dn; rw [Heap.size_push, Heap.size_push] at q; exact q)
    exact ⟨rfl, hq h' tk' (hp.objs.size + 1) dx ⟨old, Nat.le_succ _, ⟨_, _, hx, rfl, rfl, rfl, rfl⟩, Nat.le_trans (Nat.le_trans (Nat.le_succ _) (Nat.le_succ _)) z, dne, hns⟩⟩
theorem madeK (T : Txt K mg cn qn C fI) {v : Value} (X : K.In s.heap) (hlim : s.heap.NoLimit) (hroom : A.depth + 1 < recursionLimit)
    (hq : ∀ h' tk e d, Made "event" s.heap h' e C d v → R (.ok (.ret (.ref e))) { s with heap := h', toks := tk }) :
    codeAny (model prog w) A (.call (.ref C) ⟨[], [("event", v)]⟩) R s := by
  obtain ⟨nm, q, N, bs, bm, sn, sub, ab, col, dd, k0, k1, k2, k3, k5, hC, hbm⟩ := T.cls
  obtain ⟨hp, g, dr, tk, os⟩ := s
  have k : ∀ b o, hp.get? b = some o → ((hp.push (kdv_tup [])).push (excO C hp.objs.size)).get? b = some o := fun b o e => Heap.get?_push_of_some _ (Heap.get?_push_of_some _ e)
  have hget : ((hp.push (kdv_tup [])).push (excO C hp.objs.size)).get? (hp.objs.size + 1) = some (excO C hp.objs.size) := by heap_get
  have hnx : K.lookup (hp.objs.size + 1) = none := by
    cases e : K.lookup (hp.objs.size + 1) with
    | none => rfl
    | some o =>
      have z : hp.get? (hp.objs.size + 1) = some o := X _ _ e
      exact absurd (Nat.lt_of_succ_lt (Heap.lt_size z)) (Nat.lt_irrefl _)
  refine XK.call_kw F.excBase_Exception (fun X => excTail_contains X bm hbm) (X _ _ hC) (looks_findIn X T.iC) (fun self => bind_fn X self T.tC) ?_
  refine initP (s := ⟨(hp.push (kdv_tup [])).push (excO C hp.objs.size), g, dr, tk, os⟩) T (.inr rfl) (X.keeps k) (hlim.keeps k) hget hnx ?_ fun h' tk' dx ⟨k', hx, dn, dne, hns⟩ => ?_
  · show A.depth + 1 < recursionLimit
    exact hroom
  · have old : ∀ b o, hp.get? b = some o → h'.get? b = some o := fun b o e => k' b o (Nat.ne_of_lt (Nat.lt_succ_of_lt (Heap.lt_size e))) (k b o e)
    have z : hp.objs.size + 1 + 1 ≤ dx := by
      first
        | (simpa only [Heap.size_push] using dn)
        | exact dn
        | (have q := dn; rw [Heap.size_push, Heap.size_push] at q; exact q)
    exact ⟨rfl, hq h' tk' (hp.objs.size + 1) dx ⟨old, Nat.le_succ _, ⟨_, _, hx, rfl, rfl, rfl, rfl⟩, Nat.le_trans (Nat.le_trans (Nat.le_succ _) (Nat.le_succ _)) z, dne, hns⟩⟩
theorem ok (T : Txt K mg cn qn C fI) : MkOk K mg cn C "event" := ⟨T.gC, T.kC, fun a b c d => madeP T a b c d, fun a b c d => madeK T a b c d⟩
end
end XF_event
set_option linter.all false
set_option maxRecDepth 100000
set_option maxHeartbeats 4000000
namespace Sh
open PySem PySem.Spec PyProof.Rows L2
section
variable {X : Cx} {pins : List (Addr × Obj)} {σ : L2.St} {H : Hp} {s : Shared}
theorem held_inst1 {a b C dx : Addr} {oe od : Obj} {fs : List (Str × V)} (I : Inv X pins σ H s) (h : H a = some (.frz oe (.own b))) (o : ExOb oe C (some dx)) (hd : H dx = some (.frz od (.xd fs))) : PySem.W.InstAt s.heap a oe C (some od) := by
  obtain ⟨h1, _⟩ := (show ObjOk X.prog X.w H s.heap a (.frz oe (.own b)) from I.hok a _ h)
  obtain ⟨h2, _⟩ := (show ObjOk X.prog X.w H s.heap dx (.frz od (.xd fs)) from I.hok dx _ hd)
  obtain ⟨o1, o2, vs, o3⟩ := o
  exact ⟨h1, o1, by unfold PySem.W.notCls; rw [o3] <;> rfl, by rw [o2]; exact h2⟩
theorem held_inst0 {a b C : Addr} {oe : Obj} (I : Inv X pins σ H s) (h : H a = some (.frz oe (.own b))) (o : ExOb oe C none) : PySem.W.InstAt s.heap a oe C none := by
  obtain ⟨h1, _⟩ := (show ObjOk X.prog X.w H s.heap a (.frz oe (.own b)) from I.hok a _ h)
  obtain ⟨o1, o2, vs, o3⟩ := o
  exact ⟨h1, o1, by unfold PySem.W.notCls; rw [o3] <;> rfl, by rw [o2]; trivial⟩
end
theorem relO_one {f0 : Str} {v : V} {v' : Value} (r : RelV v v') (f : Str) : RelO (List.lookup f [(f0, v)]) (if f = f0 then some v' else none) := by
  by_cases hw : f = f0
  · subst hw
    rw [if_pos rfl]
    have q : List.lookup f [(f, v)] = some v := by simp [List.lookup]
    rw [q]
    exact r
  · rw [if_neg hw]
    have qw : (f == f0) = false := by simpa using hw
    have q2 : List.lookup f [(f0, v)] = none := by simp [List.lookup, qw]
    rw [q2]
    trivial
def tMkX (C : Addr) (f : Str) (ta : TA) : TE := fun σ H Q => ta σ H fun vs H1 => ∃ v, vs = [v] ∧ ∀ (e d : Addr) (oe od : Obj), H1 e = none → H1 d = none → d ≠ e → ExOb oe C (some d) →
  Q (.ref e) (upd (upd H1 d (.frz od (.xd [(f, v)]))) e (.frz oe (.own 0)))
section
variable {X : Cx} {pins : List (Addr × Obj)} {σ : L2.St} {H : Hp}
theorem made_val {f : Str} {C e d : Addr} {v : V} {v' : Value} {hp h' : Heap} {g : Array GenState} {dr : Drawn} {tk tk' : Nat} {os : OsState} {Q : VK} (I1 : Inv X pins σ H ⟨hp, g, dr, tk, os⟩) (rv : RelV v v') (M : XB.Made f hp h' e C d v')
    (q1 : ∀ (e d : Addr) (oe od : Obj), H e = none → H d = none → d ≠ e → ExOb oe C (some d) → Q (.ref e) (upd (upd H d (.frz od (.xd [(f, v)]))) e (.frz oe (.own 0)))) :
    ∃ x H', Inv X pins σ H' ⟨h', g, dr, tk', os⟩ ∧ RelV x (.ref e) ∧ Q x H' := by
  obtain ⟨oe, fv, hoe, hc, hd, hdat, h1⟩ := M.obj
  have hns := M.ns
  obtain ⟨G', g1, g2⟩ := restrict h' fun b => decide (b ≠ e)
  have gk : ∀ b, b ≠ e → G'.get? b = h'.get? b := fun b hb => g1 b (decide_eq_true hb)
  have ge : G'.get? e = none := g2 e (by simp)
  have old : ∀ b o, hp.get? b = some o → G'.get? b = some o := fun b o q => (gk b (Nat.ne_of_lt (Nat.lt_of_lt_of_le (Heap.lt_size q) M.new))).trans (M.keep b o q)
  have hns' : G'.Ns1 d (fun y => if y = f then some v' else none) := hns.at (fun o q => (gk d M.dne).trans q)
  obtain ⟨od, hod, _⟩ := lookIn_ns hns'
  have ob : ObjOk X.prog X.w (upd H d (.frz od (.xd [(f, v)]))) G' d (.frz od (.xd [(f, v)])) := ⟨hod, ⟨_, hns', fun y => relO_one rv y⟩⟩
  have J : Inv X pins σ (upd H d (.frz od (.xd [(f, v)]))) ⟨G', g, dr, tk', os⟩ := I1.laid (t' := tk') old M.dbig ob
  have nd : H d = none := I1.hok.fresh M.dbig
  have ne : H e = none := I1.hok.fresh M.new
  have ne' : upd H d (.frz od (.xd [(f, v)])) e = none := by rw [upd_ne (Ne.symm M.dne)]; exact ne
  have kk : ∀ b u, G'.get? b = some u → h'.get? b = some u := fun b u q => by
    by_cases hb : b = e
    · rw [hb, ge] at q; cases q
    · exact (gk b hb).symm.trans q
  have J2 := Inv.laidN (h' := h') (t' := tk') (o := .frz oe (.own 0)) J kk ge ne' ⟨hoe, ⟨oe, hoe⟩⟩
  exact ⟨.ref e, _, J2, rfl, q1 e d oe od ne nd M.dne ⟨hc, hd, _, hdat⟩⟩
theorem pe_mkx {cn f : Str} {C : Addr} {a : Expr} {ta : TA} {p pos : Pos} {k : Nat} (T : XB.MkOk X.K X.mg cn C f) (hr : Room k X.A) (ha : PA X [a] ta) (hg : Gl X cn := by rfl) (hdb : (cn == ("__debug__" : Str)) = false := by decide)
    (he : starEach (a :: []) X.env = (false, eval a X.env) :: starEach [] X.env := by rfl) (hpl : (backTo pos (starEach [] X.env)).any (·.1) = false := by rfl) :
    PE X (.Call (.Name cn p) [a] [] pos) (tMkX C f ta) := by
  refine ⟨fun pins s σ H Q I h => ?_⟩
  refine wpAny_Call_Name_kw (ld_glob I hg T.gC ?_ hdb)
  refine PySem.W.callWith_K (h₀ := X.base) I.ok.mod.kin T.kC (thn (ha.run pos pins s σ H _ I h) fun us s1 hh => ?_) he hpl
  obtain ⟨vs, H1, I1, r1, v, ev, q1⟩ := hh
  subst ev
  refine ⟨I1.kIn, ?_⟩
  cases r1 with
  | cons rv rn =>
    rename_i v' us'
    cases rn
    show wpAny _ _ (call (.ref C) [v']) _ _ _
    have hlim := I1.nolimit
    obtain ⟨hp, g, dr, tk, os⟩ := s1
    exact wpAny_call (T.pos I1.kIn hlim (by have := hr.dp; omega) fun h' tk' e d M => made_val I1 rv M q1)
theorem pe_mkxK {cn f : Str} {C : Addr} {kws : List Keyword} {ta : TA} {p pos : Pos} {k : Nat} (T : XB.MkOk X.K X.mg cn C f) (hr : Room k X.A) (ha : PK X kws ta) (hg : Gl X cn := by rfl) (hdb : (cn == ("__debug__" : Str)) = false := by decide)
    (hall : (backToKw pos (keywordEach kws X.env)).all (·.1.isSome) = true := by rfl) (hks : (backToKw pos (keywordEach kws X.env)).filterMap (·.1) = [f] := by rfl)
    (hpl : ((backTo pos (starEach [] X.env)).any (·.1) || (backToKw pos (keywordEach kws X.env)).any (·.1.isNone)) = false := by rfl) :
    PE X (.Call (.Name cn p) [] kws pos) (tMkX C f ta) := by
  refine ⟨fun pins s σ H Q I h => ?_⟩
  refine wpAny_Call_Name_kw (ld_glob I hg T.gC ?_ hdb)
  refine PySem.W.callWith_KW0 (h₀ := X.base) I.ok.mod.kin T.kC hall (thn (PK.run ha pos pins s σ H _ I h) fun us s1 hh => ?_) hpl
  obtain ⟨vs, H1, I1, r1, v, ev, q1⟩ := hh
  subst ev
  refine ⟨I1.kIn, ?_⟩
  rw [hks]
  cases r1 with
  | cons rv rn =>
    rename_i v' us'
    cases rn
    have hlim := I1.nolimit
    obtain ⟨hp, g, dr, tk, os⟩ := s1
    exact wpAny_call (T.kw I1.kIn hlim (by have := hr.dp; omega) fun h' tk' e d M => made_val I1 rv M q1)
end
def mkxE (C : Addr) (f : Str) (as : AM) : EM := fun env => SM.bind (as env) fun ws => fun m => match ws with
  | [w] => .ok (.ex1 C f w) m
  | _ => .bad
theorem den_mkx {K : PySem.W.Frag} {W' : WX} {C : Addr} {f : Str} {as : AM} {σ : L2.St} {H : Hp} {Q : VK} (h : denE K W' (mkxE C f as) σ H Q) : tMkX C f (denA K W' as) σ H Q := by
  obtain ⟨env, mem, loc, re, rs, h⟩ := h
  refine denA_then (k := fun env ws => fun m => match ws with | [w] => .ok (W.ex1 C f w) m | _ => .bad) re rs h fun xs mem1 vs H1 loc1 e1 rs1 rv1 re1 h1 => ?_
  match xs, vs, rv1, h1 with
  | [], _, _, h1 => exact h1.elim
  | [w], _, .cons (v := v) r1 .nil, h1 =>
    refine ⟨v, rfl, fun e d oe od ne nd hde ho => ?_⟩
    have x1 : Ext loc1 H1 loc1 (upd H1 d (.frz od (.xd [(f, v)]))) := Ext.new nd
    have ne' : upd H1 d (.frz od (.xd [(f, v)])) e = none := by rw [upd_ne (Ne.symm hde)]; exact ne
    have x2 : Ext loc1 (upd H1 d (.frz od (.xd [(f, v)]))) loc1 (upd (upd H1 d (.frz od (.xd [(f, v)]))) e (.frz oe (.own 0))) := Ext.new ne'
    exact h1 _ _ loc1 (e1.trans (x1.trans x2)) ((rs1.grow nd).grow ne') (.ex1 upd_same ho (r1.mono (x1.trans x2)) (by rw [upd_ne hde, upd_same]))
  | _ :: _ :: _, _, _, h1 => exact h1.elim
section
variable {X : Cx} {W' : WX} {k : Nat} {cn f : Str} {C : Addr} {a : Expr} {as : AM} {p pos : Pos} {kws : List Keyword}
theorem se_mkx (T : XB.MkOk X.K X.mg cn C f) (hr : Room k X.A) (ha : SA X W' [a] as) (hg : Gl X cn) (hdb : (cn == ("__debug__" : Str)) = false := by decide)
    (he : starEach (a :: []) X.env = (false, eval a X.env) :: starEach [] X.env := by rfl) (hpl : (backTo pos (starEach [] X.env)).any (·.1) = false := by rfl) :
    SE X W' (.Call (.Name cn p) [a] [] pos) (mkxE C f as) := pe_imp (pe_mkx T hr ha hg hdb he hpl) fun _ _ _ h => den_mkx h
theorem se_mkxK (T : XB.MkOk X.K X.mg cn C f) (hr : Room k X.A) (ha : SK X W' kws as) (hg : Gl X cn) (hdb : (cn == ("__debug__" : Str)) = false := by decide)
    (hall : (backToKw pos (keywordEach kws X.env)).all (·.1.isSome) = true := by rfl) (hks : (backToKw pos (keywordEach kws X.env)).filterMap (·.1) = [f] := by rfl)
    (hpl : ((backTo pos (starEach [] X.env)).any (·.1) || (backToKw pos (keywordEach kws X.env)).any (·.1.isNone)) = false := by rfl) :
    SE X W' (.Call (.Name cn p) [] kws pos) (mkxE C f as) := pe_imp (pe_mkxK T hr ha hg hdb hall hks hpl) fun _ _ _ h => den_mkx h
end
structure MkNo (K : PySem.W.Frag) (mg : Str → Option Value) (cn : Str) (C : Addr) : Prop where
  gC : mg cn = some (.ref C)
  kC : PySem.W.keepIn K (.ref C) = true
  ex : PySem.W.excIn K C ErX.exT "Exception.__new__" = true
def tMk0 (C : Addr) : TE := fun σ H Q => ∀ (e : Addr) (oe : Obj), H e = none → ExOb oe C none → Q (.ref e) (upd H e (.frz oe (.own 0)))
theorem pe_mk0 {X : Cx} {cn : Str} {C : Addr} {p pos : Pos} (T : MkNo X.K X.mg cn C) (hg : Gl X cn) (hdb : (cn == ("__debug__" : Str)) = false := by decide) :
    PE X (.Call (.Name cn p) [] [] pos) (tMk0 C) := by
  refine ⟨fun pins s σ H Q I h => ?_⟩
  refine wpAny_Call_Name_kw (ld_glob I hg T.gC ?_ hdb)
  refine PySem.W.callWith_K0 I.kIn T.kC ?_
  show wpAny _ _ (call (.ref C) []) _ _ _
  obtain ⟨bm, N, nm, qn, bs, hdct, sn, sub, ab, col, dd, k0, k1, k2, k3, k5, mN, hC, hN, hni, T'⟩ := exc_obj I.kIn T.ex
  refine wpAny_call_exc_subT PySem.F.excBase_Exception T' hC hN hni (fun h' a hm => ?_) (by show 0 ≤ sizeLine; rw [sizeLine_eq]; omega)
  have hn : H a = none := I.hok.gone hm.new
  obtain ⟨t, ht, _, _⟩ := hm.there
  exact ⟨.ref a, _, I.laidN (o := .frz _ (.own 0)) hm.keeps hm.new hn ⟨ht, ⟨_, ht⟩⟩, rfl, h a _ hn ⟨rfl, rfl, _, rfl⟩⟩
def mk0E (C : Addr) : EM := fun _ => fun m => .ok (.ex0 C) m
theorem se_mk0 {X : Cx} {W' : WX} {cn : Str} {C : Addr} {p pos : Pos} (T : MkNo X.K X.mg cn C) (hg : Gl X cn) (hdb : (cn == ("__debug__" : Str)) = false := by decide) :
    SE X W' (.Call (.Name cn p) [] [] pos) (mk0E C) := pe_imp (pe_mk0 T hg hdb) fun σ H Q ⟨env, mem, loc, re, rs, h⟩ => fun e oe ne ho => by
  have x1 : Ext loc H loc (upd H e (.frz oe (.own 0))) := Ext.new ne
  exact h _ _ loc x1 (rs.grow ne) (.ex0 upd_same ho)
def tAttrX (Cs : List Addr) (f : Str) (te : TE) : TE := fun σ H Q => te σ H fun x H1 => ∃ (a b C dx : Addr) (oe od : Obj) (v : V), x = .ref a ∧ H1 a = some (.frz oe (.own b)) ∧ ExOb oe C (some dx) ∧ H1 dx = some (.frz od (.xd [(f, v)])) ∧ C ∈ Cs ∧ Q v H1
theorem pe_attrX {X : Cx} {Cs : List Addr} {f : Str} {e : Expr} {te : TE} {pos : Pos} (T : ∀ C ∈ Cs, ExcC X.K C ∧ PySem.W.findIn X.K (.ref C) f = some none) (he : PE X e te)
    (hb : attributeBase e f X.env (eval e X.env) = eval e X.env := by rfl) : PE X (.Attribute e f pos) (tAttrX Cs f te) := by
  refine ⟨fun pins s σ H Q I h => ?_⟩
  refine attr_of hb (thn (he.run pins s σ H _ I h) fun u s1 hh => ?_)
  obtain ⟨x, H1, I1, rx, a, b, C, dx, oe, od, v, ex, ha, ho, hd, hC, q⟩ := hh
  subst ex
  obtain rfl : u = Value.ref a := rx
  obtain ⟨T1, T2⟩ := T C hC
  have J := held_inst1 I1 ha ho hd
  obtain ⟨h2, mA, hns, hr⟩ := (show ObjOk X.prog X.w H1 s1.heap dx (.frz od (.xd [(f, v)])) from I1.hok dx _ hd)
  obtain ⟨od', ho', hl⟩ := lookIn_ns hns
  rw [h2] at ho'
  cases ho'
  have l : List.lookup f [(f, v)] = some v := by simp [List.lookup]
  obtain ⟨u, hu, ru⟩ := RelO.some_of (v := v) (o := mA f) (by rw [← l]; exact hr f)
  exact HandSPX.exc_get I1.kIn J T1.hg T1.hk T1.hs (PySem.W.findObj_own T1.hd T2 rfl (by rw [hl, hu])) (handed_of ru) ⟨v, H1, I1.tok _, ru, q⟩
def attrXE (Cs : List Addr) (f : Str) (m : EM) : EM := fun env => SM.bind (m env) fun w => fun mem => match w with
  | .ex1 C g v => if C ∈ Cs ∧ g = f then .ok v mem else .bad
  | _ => .bad
theorem se_attrX {X : Cx} {W' : WX} {Cs : List Addr} {f : Str} {e : Expr} {m : EM} {pos : Pos} (T : ∀ C ∈ Cs, ExcC X.K C ∧ PySem.W.findIn X.K (.ref C) f = some none) (he : SE X W' e m)
    (hb : attributeBase e f X.env (eval e X.env) = eval e X.env := by rfl) : SE X W' (.Attribute e f pos) (attrXE Cs f m) := by
  refine pe_imp (pe_attrX T he hb) fun σ H Q h => ?_
  obtain ⟨env, mem, loc, re, rs, h⟩ := h
  refine denE_then (k := fun env w => fun mem => match w with | .ex1 C g v => if C ∈ Cs ∧ g = f then .ok v mem else .bad | _ => .bad) re rs h fun w mem1 v H1 loc1 e1 rs1 rv1 re1 h1 => ?_
  cases rv1 with
  | @ex1 C a b dx g w v oe od h2 h3 h4 h5 =>
    dsimp only at h1
    by_cases hc : C ∈ Cs ∧ g = f
    · rw [if_pos hc] at h1
      obtain ⟨hc, rfl⟩ := hc
      exact ⟨a, b, C, dx, oe, od, v, rfl, h2, h3, h5, hc, h1 _ _ loc1 e1 rs1 h4⟩
    · rw [if_neg hc] at h1
      exact h1.elim
  | _ => exact h1.elim
def rIsX (K : PySem.W.Frag) : List V → Hp → VK → Prop := fun xs H Q => ∃ (a b C : Addr) (oe : Obj) (c : V) (cv : Value) (r : Bool), xs = [.ref a, c] ∧ H a = some (.frz oe (.own b)) ∧
  (ExOb oe C none ∨ ∃ dx od fs, ExOb oe C (some dx) ∧ H dx = some (.frz od (.xd fs))) ∧ ExcC K C ∧ (∀ u, RelV c u → u = cv) ∧ PySem.W.kitOne K (.ref C) cv = some r ∧ Q (.bl r) H
theorem call_isX {X : Cx} : CallR X (.builtin "isinstance") (rIsX X.K) := by
  intro pins s σ H xs us Q I r h
  obtain ⟨a, b, C, oe, c, cv, z, rfl, ha, ho, T, hc, hk, q⟩ := h
  obtain ⟨u1, u2, rfl, r1, r2⟩ := vals2 r
  obtain rfl : u1 = Value.ref a := r1
  have e2 := hc _ r2
  subst e2
  have hcl : (PySem.W.clsIn X.K C).isSome = true := by
    obtain ⟨cd, e, _⟩ := PySem.W.any_some T.hd
    rw [e]; rfl
  rcases ho with ho | ⟨dx, od, fs, ho, hd⟩
  · exact PySem.W.kia_one (PySem.W.kitx_exc hcl T.hg T.hk T.hs T.ha T.hn T.ht T.hm) I.kIn (held_inst0 I ha ho) hk (fun z => nomatch z) fun tk => ⟨.bl _, H, I.tok tk, rfl, q⟩
  · exact PySem.W.kia_one (PySem.W.kitx_exc hcl T.hg T.hk T.hs T.ha T.hn T.ht T.hm) I.kIn (held_inst1 I ha ho hd) hk (fun z => nomatch z) fun tk => ⟨.bl _, H, I.tok tk, rfl, q⟩
def isxV (tab : Addr → W → Option Bool) : OpN := fun ws mem => match ws with
  | [.ex0 C, c] => (tab C c).map fun b => (.bl b, mem)
  | [.ex1 C _ _, c] => (tab C c).map fun b => (.bl b, mem)
  | _ => none
structure XTabOk (K : PySem.W.Frag) (tab : Addr → W → Option Bool) : Prop where
  ok : ∀ C c b, tab C c = some b → ExcC K C ∧ ∃ cv, (∀ loc H v, Rv K loc H c v → ∀ u, RelV v u → u = cv) ∧ PySem.W.kitOne K (.ref C) cv = some b
theorem c_isx {X : Cx} {tab : Addr → W → Option Bool} (T : XTabOk X.K tab) : CallR X (.builtin "isinstance") (caP X.K (isxV tab)) := callR_of call_isX fun ws mem loc H xs w mem' Q rs rv e q => by
  unfold isxV at e
  split at e
  · rename_i C c
    cases rv with
    | cons r1 r2 =>
      cases r2 with
      | cons r2 r3 =>
        cases r3
        cases ht : tab C c with
        | none => rw [ht] at e; cases e
        | some b =>
          rw [ht] at e
          cases e
          obtain ⟨t1, cv, t2, t3⟩ := T.ok _ _ _ ht
          cases r1 with
          | ex0 h2 h3 => exact ⟨_, _, C, _, _, cv, b, rfl, h2, .inl h3, t1, t2 _ _ _ r2, t3, q.flat rs rfl⟩
  · rename_i C f w' c
    cases rv with
    | cons r1 r2 =>
      cases r2 with
      | cons r2 r3 =>
        cases r3
        cases ht : tab C c with
        | none => rw [ht] at e; cases e
        | some b =>
          rw [ht] at e
          cases e
          obtain ⟨t1, cv, t2, t3⟩ := T.ok _ _ _ ht
          cases r1 with
          | ex1 h2 h3 h4 h5 => exact ⟨_, _, C, _, _, cv, b, rfl, h2, .inr ⟨_, _, _, h3, h5⟩, t1, t2 _ _ _ r2, t3, q.flat rs rfl⟩
  · cases e
def foreigns : List String := ["ValueError", "LookupError", "ArithmeticError"]
def xtab (B : Addr) (Cs : List Addr) : Addr → W → Option Bool := fun C c => if C ∈ Cs then (match c with
  | .ob D => if D = B then some true else if D ∈ Cs then some (decide (C = D)) else none
  | .ty n => if n = "Exception" then some true else if n ∈ foreigns then some false else none
  | _ => none) else none
theorem xtab_ok {K : PySem.W.Frag} {B : Addr} {Cs : List Addr} (h1 : ∀ C ∈ Cs, ExcC K C) (h2 : ∀ C ∈ Cs, PySem.W.kitOne K (.ref C) (.ref B) = some true) (h3 : ∀ C ∈ Cs, ∀ D ∈ Cs, PySem.W.kitOne K (.ref C) (.ref D) = some (decide (C = D)))
    (h4 : ∀ C ∈ Cs, PySem.W.kitOne K (.ref C) (.type "Exception") = some true) (h5 : ∀ C ∈ Cs, ∀ n ∈ foreigns, PySem.W.kitOne K (.ref C) (.type n) = some false) : XTabOk K (xtab B Cs) := ⟨fun C c b e => by
  unfold xtab at e
  by_cases hC : C ∈ Cs
  · rw [if_pos hC] at e
    refine ⟨h1 C hC, ?_⟩
    cases c with
    | ob D =>
      refine ⟨.ref D, fun loc H v r u ru => by cases r; exact ru, ?_⟩
      dsimp only at e
      by_cases hD : D = B
      · rw [if_pos hD] at e; cases e; rw [hD]; exact h2 C hC
      · rw [if_neg hD] at e
        by_cases hD2 : D ∈ Cs
        · rw [if_pos hD2] at e; cases e; exact h3 C hC D hD2
        · rw [if_neg hD2] at e; cases e
    | ty n =>
      refine ⟨.type n, fun loc H v r u ru => by cases r; exact ru, ?_⟩
      dsimp only at e
      by_cases hn : n = "Exception"
      · rw [if_pos hn] at e; cases e; rw [hn]; exact h4 C hC
      · rw [if_neg hn] at e
        by_cases hn2 : n ∈ foreigns
        · rw [if_pos hn2] at e; cases e; exact h5 C hC n hn2
        · rw [if_neg hn2] at e; cases e
    | _ => cases e
  · rw [if_neg hC] at e; cases e⟩
end Sh
set_option linter.all false
set_option maxRecDepth 100000
set_option maxHeartbeats 4000000
namespace Sh
open PySem PySem.Spec PyProof.Rows L2
structure RaOk (K : PySem.W.Frag) (C : Addr) : Prop where
  exC : PySem.W.subIn K (.ref C) (.type "BaseException") = some true
  tyC : PySem.W.typeIn K (.ref C) = some (.type "type")
def tRaX (C : Addr) (f : Str) (ta : TA) : L2.St → Hp → XK → Prop := fun σ H Q => ta σ H fun vs H1 => ∃ v, vs = [v] ∧ ∀ d, H1 d = none → Q (.ref C) (some d) (upd H1 d (.xd [(f, v)]))
section
variable {X : Cx} {cn f : Str} {C : Addr}
theorem pmk_x {a : Expr} {ta : TA} {p pos : Pos} {k : Nat} (T : XB.MkOk X.K X.mg cn C f) (R : RaOk X.K C) (hr : Room k X.A) (ha : PA X [a] ta) (hg : Gl X cn := by rfl) (hdb : (cn == ("__debug__" : Str)) = false := by decide)
    (he : starEach (a :: []) X.env = (false, eval a X.env) :: starEach [] X.env := by rfl) (hpl : (backTo pos (starEach [] X.env)).any (·.1) = false := by rfl) :
    PMk X (.Call (.Name cn p) [a] [] pos) (tRaX C f ta) := by
  intro pins s σ H Q I h
  refine wpAny_Call_Name_kw (ld_glob I hg T.gC ?_ hdb)
  refine PySem.W.callWith_K (h₀ := X.base) I.ok.mod.kin T.kC (thn (ha.run pos pins s σ H _ I h) fun us s1 hh => ?_) he hpl
  obtain ⟨vs, H1, I1, r1, v, ev, q1⟩ := hh
  subst ev
  refine ⟨I1.kIn, ?_⟩
  cases r1 with
  | cons rv rn =>
    rename_i v' us'
    cases rn
    show wpAny _ _ (call (.ref C) [v']) _ _ _
    have hlim := I1.nolimit
    obtain ⟨hp, g, dr, tk, os⟩ := s1
    refine wpAny_call (T.pos I1.kIn hlim (by have := hr.dp; omega) fun h' tk' e d M => ?_)
    show MkP X pins σ Q (.ref e) ⟨h', g, dr, tk', os⟩
    obtain ⟨oe, fv, hoe, hc, hd, hdat, h1⟩ := M.obj
    have hns := M.ns
    obtain ⟨G', g1, g2⟩ := restrict h' fun b => decide (b ≠ e)
    have gk : ∀ b, b ≠ e → G'.get? b = h'.get? b := fun b hb => g1 b (decide_eq_true hb)
    have ge : G'.get? e = none := g2 e (by simp)
    have old : ∀ b o, hp.get? b = some o → G'.get? b = some o := fun b o q => (gk b (Nat.ne_of_lt (Nat.lt_of_lt_of_le (Heap.lt_size q) M.new))).trans (M.keep b o q)
    have ob : ObjOk X.prog X.w (upd H1 d (.xd [(f, v)])) G' d (.xd [(f, v)]) :=
      ⟨_, hns.at (fun o q => (gk d M.dne).trans q), fun y => relO_one rv y⟩
    have J : Inv X pins σ (upd H1 d (.xd [(f, v)])) ⟨G', g, dr, tk', os⟩ := I1.laid (t' := tk') old M.dbig ob
    refine ⟨e, oe, fv, ⟨G', g, dr, tk', os⟩, _, .ref C, some d, rfl, J, fun b o q => ?_, ge, hoe, ⟨hc, hd⟩, hdat, h1, ?_, rfl, I1.bare, raises_own R.exC R.tyC, q1 d (I1.hok.fresh M.dbig)⟩
    · by_cases hb : b = e
      · have q' : G'.get? b = some o := q
        rw [hb, ge] at q'; cases q'
      · exact (gk b hb).symm.trans q
    · rw [upd_ne (Ne.symm M.dne)]
      exact I1.hok.fresh M.new
theorem pmk_0 {p pos : Pos} (T : MkNo X.K X.mg cn C) (R : RaOk X.K C) (hg : Gl X cn := by rfl) (hdb : (cn == ("__debug__" : Str)) = false := by decide) :
    PMk X (.Call (.Name cn p) [] [] pos) (fun σ H Q => Q (.ref C) none H) := by
  intro pins s σ H Q I h
  refine wpAny_Call_Name_kw (ld_glob I hg T.gC ?_ hdb)
  refine PySem.W.callWith_K0 I.kIn T.kC ?_
  show wpAny _ _ (call (.ref C) []) _ _ _
  obtain ⟨bm, N, nm, qn, bs, hdct, sn, sub, ab, col, dd, k0, k1, k2, k3, k5, mN, hC, hN, hni, T'⟩ := exc_obj I.kIn T.ex
  refine wpAny_call_exc_subT PySem.F.excBase_Exception T' hC hN hni (fun h' a hm => ?_) (by show 0 ≤ sizeLine; rw [sizeLine_eq]; omega)
  show MkP X pins σ Q (.ref a) _
  have hn : H a = none := I.hok.gone hm.new
  obtain ⟨t, ht, _, _⟩ := hm.there
  obtain ⟨G', g1, g2⟩ := restrict h' fun b => decide (b ≠ a)
  have gk : ∀ b, b ≠ a → G'.get? b = h'.get? b := fun b hb => g1 b (decide_eq_true hb)
  have ge : G'.get? a = none := g2 a (by simp)
  have old : ∀ b o, s.heap.get? b = some o → G'.get? b = some o := fun b o q => (gk b (fun z => by rw [z, hm.new] at q; cases q)).trans (hm.keeps b o q)
  refine ⟨a, _, _, { s with heap := G' }, H, .ref C, none, rfl, I.kept old, fun b o q => ?_, ge, ht, ⟨rfl, rfl⟩, rfl, rfl, hn, rfl, I.bare, raises_own R.exC R.tyC, h⟩
  by_cases hb : b = a
  · have q' : G'.get? b = some o := q
    rw [hb, ge] at q'; cases q'
  · exact (gk b hb).symm.trans q
end
def raiseXS (C : Addr) (f : Str) (as : AM) : SS := ofE as fun ws env mem => match ws with
  | [w] => .exc ⟨C, some [(f, w)]⟩ env mem
  | _ => .bad
def raise0S (C : Addr) : SS := fun env mem => .exc ⟨C, none⟩ env mem
section
variable {X : Cx} {W' : WX} {cn f : Str} {C : Addr} {a : Expr} {as : AM} {p pos pos2 : Pos} {k : Nat}
theorem ss_raiseX (T : XB.MkOk X.K X.mg cn C f) (R : RaOk X.K C) (hr : Room k X.A) (tk : Takes X W') (ha : SA X W' [a] as) (hg : Gl X cn) (hc : X.calm = true := by rfl) (hdb : (cn == ("__debug__" : Str)) = false := by decide)
    (he : starEach (a :: []) X.env = (false, eval a X.env) :: starEach [] X.env := by rfl) (hpl : (backTo pos (starEach [] X.env)).any (·.1) = false := by rfl) :
    SSt X W' (.Raise (some (.Call (.Name cn p) [a] [] pos)) none pos2) (raiseXS C f as) := by
  refine ps_imp (ps_raise hc tk (pmk_x T R hr ha hg hdb he hpl)) fun D σ H ⟨env, mem, loc, re, rs, h⟩ => ?_
  refine denA_of (k := fun ws env mem => match ws with | [w] => .exc ⟨C, some [(f, w)]⟩ env mem | _ => .bad) re rs h fun ws mem1 vs H1 loc1 e1 rs1 rv1 re1 h1 => ?_
  match ws, vs, rv1, h1 with
  | [], _, _, h1 => exact h1.elim
  | [w], _, .cons (v := v) r1 .nil, h1 =>
    refine ⟨v, rfl, fun d hd => ?_⟩
    have ex : Ext loc1 H1 loc1 (upd H1 d (.xd [(f, v)])) := Ext.new hd
    exact h1 _ _ σ _ loc1 ex (rs1.grow hd) ⟨rfl, d, _, rfl, upd_same, .cons ⟨rfl, r1.mono ex⟩ .nil⟩ (re1.mono ex)
  | _ :: _ :: _, _, _, h1 => exact h1.elim
theorem ss_rz (T : MkNo X.K X.mg cn C) (R : RaOk X.K C) (tk : Takes X W') (hg : Gl X cn) (hc : X.calm = true := by rfl) (hdb : (cn == ("__debug__" : Str)) = false := by decide) :
    SSt X W' (.Raise (some (.Call (.Name cn p) [] [] pos)) none pos2) (raise0S C) := by
  refine ps_imp (ps_raise hc tk (pmk_0 T R hg hdb)) fun D σ H ⟨env, mem, loc, re, rs, h⟩ => ?_
  exact h _ _ σ _ loc Ext.refl rs ⟨rfl, rfl⟩ re
end
def tryIsS (tab : Addr → W → Option Bool) (i : Nat) (c : W) (s : SS) : SS := fun env mem => match s env mem with
  | .exc x e m => if i < e.length then (match tab x.cls c with
      | some b => .rt (.bl b) m
      | none => .bad) else .bad
  | .nx e m => .nx e m
  | .rt w m => .rt w m
  | .bk e m => .bk e m
  | .ct e m => .ct e m
  | .bad => .bad
def rIsS (K : PySem.W.Frag) (cls : Value) (a : Addr) (d : Option Addr) : List V → Hp → VK → Prop := fun xs H Q => ∃ (C : Addr) (c : V) (cv : Value) (b : Bool), cls = .ref C ∧ xs = [.ref a, c] ∧ (∀ u, RelV c u → u = cv) ∧ PySem.W.kitOne K (.ref C) cv = some b ∧
  ExcC K C ∧ (∀ dx, d = some dx → ∃ fs, H dx = some (.xd fs)) ∧ Q (.bl b) H
theorem call_isS {X : Cx} {a : Addr} {cls : Value} {d : Option Addr} {oe : Obj} {pn : List (Addr × Obj)} (hz : Zc cls d oe) (hf : ∃ vs, oe.data = .fields vs) : CallR (X.suite a ((a, oe) :: pn)) (.builtin "isinstance") (rIsS X.K cls a d) := by
  intro pins s σ H xs us Q I r h
  obtain ⟨C, c, cv, b, rfl, rfl, hc, hk, T, hd, q⟩ := h
  obtain ⟨u1, u2, rfl, r1, r2⟩ := vals2 r
  obtain rfl : u1 = Value.ref a := r1
  have e2 := hc _ r2
  subst e2
  have hcl : (PySem.W.clsIn X.K C).isSome = true := by
    obtain ⟨cd, e, _⟩ := PySem.W.any_some T.hd
    rw [e]; rfl
  obtain ⟨hget, _⟩ := I.pin (a, oe) (List.mem_append.mpr (.inl List.mem_cons_self))
  obtain ⟨vs, hv⟩ := hf
  have J : ∃ od, PySem.W.InstAt s.heap a oe C od := by
    cases d with
    | none => exact ⟨none, hget, hz.1, by unfold PySem.W.notCls; rw [hv] <;> rfl, by rw [hz.2]; trivial⟩
    | some dx =>
      obtain ⟨fs, hx⟩ := hd dx rfl
      obtain ⟨mA, hns, _⟩ := (show ObjOk X.prog X.w H s.heap dx (.xd fs) from I.hok dx _ hx)
      obtain ⟨od, ho, _⟩ := lookIn_ns hns
      exact ⟨some od, hget, hz.1, by unfold PySem.W.notCls; rw [hv] <;> rfl, by rw [hz.2]; exact ho⟩
  obtain ⟨od, J⟩ := J
  exact PySem.W.kia_one (PySem.W.kitx_exc hcl T.hg T.hk T.hs T.ha T.hn T.ht T.hm) I.kIn J hk (fun z => nomatch z) fun tk => ⟨.bl _, H, I.tok tk, rfl, q⟩
section
variable {X : Cx} {W' : WX} {n cn dn : Str} {B D : Addr} {i : Nat} {body : List Stmt} {s : SS} {np pos pos' p1 p2 p3 p4 p5 : Pos} {tab : Addr → W → Option Bool}
theorem ss_tryIs (TB : XTabOk X.K tab) (gB : X.mg cn = some (.ref B)) (hm : ∀ C b, tab C (.ob D) = some b → PySem.W.exmOne X.K (.ref C) (.ref B) = some true) (hs : X.stack = X.env :: X.outer) (hf : X.env.frame = some X.env.locals) (hN : X.N.Nodup) (hi : X.N[i]? = some n) (hln : X.env.kindOf n = some .local) (hg : Gl X cn) (tk : Takes X W')
    (hb : ∀ (W : WX) (pn : List (Addr × Obj)) (xe : Value → Shared → Prop), Takes (X.tr pn xe) W → PassesOwn (model X.prog X.w) X.A X.env xe → SBl (X.tr pn xe) W body s)
    (hv : ∀ (a : Addr) (pn : List (Addr × Obj)), PE (X.suite a pn) (.Name n p1) (tVar i)) (hdn : ∀ (a : Addr) (pn : List (Addr × Obj)), PE (X.suite a pn) (.Name dn p2) (tC (.ref D)))
    (hgi : ∀ (a : Addr) (pn : List (Addr × Obj)), Gl (X.suite a pn) "isinstance") (hmi : X.mg "isinstance" = none) (hdb : (cn == ("__debug__" : Str)) = false := by decide)
    (hst : ∀ (a : Addr) (pn : List (Addr × Obj)), starEach (.Name n p1 :: [.Name dn p2]) (X.suite a pn).env = (false, eval (.Name n p1) (X.suite a pn).env) :: starEach [.Name dn p2] (X.suite a pn).env := by intro _ _; rfl)
    (hst2 : ∀ (a : Addr) (pn : List (Addr × Obj)), starEach [.Name dn p2] (X.suite a pn).env = (false, eval (.Name dn p2) (X.suite a pn).env) :: starEach [] (X.suite a pn).env := by intro _ _; rfl)
    (hpl : ∀ (a : Addr) (pn : List (Addr × Obj)), (backTo p4 (starEach [.Name dn p2] (X.suite a pn).env)).any (·.1) = false := by intro _ _; rfl) :
    SSt X W' (.Try body [.ExceptHandler (some (.Name cn np)) (some n) [.Return (some (.Call (.Name "isinstance" p3) [.Name n p1, .Name dn p2] [] p4)) p5] pos'] [] [] pos) (tryIsS tab i (.ob D) s) := by
  refine ps_imp (ps_try_as (tb := fun W => denS X.K W s) (ts := fun a cls d => tRet (tCB (rIsS X.K cls a d) (tCons (tVar i) (tCons (tC (.ref D)) tNil)))) hs hf hN hi hln ⟨hg, hdb, .inl gB⟩ tk (fun W pn xe tk2 po => hb W pn xe tk2 po)
    (fun a oe cls d pn hz hfs => pss_one (ps_ret (pe_callB (call_isS hz hfs) (hgi a _) hmi (by rfl) (pa_cons (hv a _) (pa_cons (hdn a _) pa_nil (hst2 a _)) (hst a _)) (by decide) (by decide) (hst a _) (hpl a _))))) fun E σ H h => ?_
  obtain ⟨env, mem, loc, re, rs, h⟩ := h
  refine ⟨env, mem, loc, re, rs, ?_⟩
  unfold tryIsS at h
  cases e : s env mem with
  | nx e1 m => rw [e] at h; exact h
  | rt w m => rw [e] at h; exact h
  | bk e1 m => rw [e] at h; exact h
  | ct e1 m => rw [e] at h; exact h
  | bad => rw [e] at h; exact h
  | exc y e1 m =>
    rw [e] at h
    dsimp only at h
    intro cls d σ' H' loc' ex rs' rx re'
    obtain ⟨yc, yf⟩ := y
    obtain ⟨rfl, rx⟩ := rx
    dsimp only at h rx ⊢
    by_cases hi2 : i < e1.length
    · rw [if_pos hi2] at h
      cases ht : tab yc (.ob D) with
      | none => rw [ht] at h; exact h.elim
      | some b =>
        rw [ht] at h
        dsimp only at h
        obtain ⟨t1, cv, t2, t3⟩ := TB.ok _ _ _ ht
        have hcv : cv = .ref D := by
          have := t2 [] (fun _ => none) (.ref D) (.ob D) (.ref D) rfl
          exact this.symm
        subst hcv
        refine ⟨true, hm _ _ ht, fun _ a ha => ?_, fun z => by cases z⟩
        have hd : ∀ dx, d = some dx → ∃ fs, H' dx = some (.xd fs) := fun dx hdx => by
          cases yf with
          | none =>
            dsimp only at rx
            rw [rx] at hdx
            cases hdx
          | some fs =>
            obtain ⟨dx', vs, h1, h2, _⟩ := rx
            rw [h1] at hdx
            cases hdx
            exact ⟨vs, h2⟩
        refine ⟨.ref a, List.getElem?_set_self (by rw [← re'.len]; exact hi2), yc, .ref D, .ref D, b, rfl, rfl, fun u hu => hu, t3, t1, hd, ?_⟩
        exact h (.bl b) H' loc' ex rs' (.bl b)
    · rw [if_neg hi2] at h
      exact h.elim
end
end Sh
set_option linter.all false
set_option maxRecDepth 100000
set_option maxHeartbeats 4000000
set_option linter.all false
set_option maxRecDepth 100000
set_option maxHeartbeats 4000000
set_option linter.all false
set_option maxRecDepth 100000
set_option maxHeartbeats 4000000
set_option linter.all false
set_option maxRecDepth 100000
set_option maxHeartbeats 4000000
set_option linter.all false
set_option maxRecDepth 100000
set_option maxHeartbeats 4000000
namespace Sh
open PySem PySem.Spec PyProof.Rows L2
open PySem.W (alike dataLt AllAlike AlikeAll EachIs)
variable {X : Cx} {W' : WX}
theorem Vals.at' : ∀ {xs : List V} {us : List Value} {i : Nat} {u : Value}, Vals xs us → us[i]? = some u → ∃ x, xs[i]? = some x ∧ RelV x u
  | _, _, 0, _, .cons r _, e => ⟨_, rfl, by cases e; exact r⟩
  | _, _, i + 1, _, .cons _ t, e => Vals.at' (i := i) t e
end Sh
set_option linter.all false
set_option maxRecDepth 100000
set_option maxHeartbeats 4000000
set_option linter.all false
set_option maxRecDepth 100000
set_option maxHeartbeats 4000000
set_option linter.all false
set_option maxRecDepth 100000
set_option maxHeartbeats 4000000
set_option linter.all false
set_option maxRecDepth 100000
set_option maxHeartbeats 4000000
set_option linter.all false
set_option maxRecDepth 100000
set_option maxHeartbeats 4000000
namespace Sh
open PySem PySem.Spec PyProof.Rows L2
theorem REnv.monoW {K : PySem.W.Frag} {loc loc' : Locs} {H H' : Hp} {env : VEnv} {σ : L2.St} (r : REnv K loc H env σ) (e : ExtW loc H loc' H') : REnv K loc' H' env σ :=
  ⟨r.len, fun i w h => let ⟨v, h1, h2⟩ := r.get i w h; ⟨v, h1, h2.monoW e⟩⟩
variable {X : Cx} {W' : WX}
theorem PS.or {st : Stmt} {t t' : TS} (h : PS X st t) (h' : PS X st t') : PS X st (fun D σ H => t D σ H ∨ t' D σ H) :=
  ⟨fun pins s σ H D I q => q.elim (h.run pins s σ H D I) (h'.run pins s σ H D I)⟩
end Sh
set_option linter.all false
set_option maxRecDepth 100000
set_option maxHeartbeats 4000000
set_option linter.all false
set_option maxRecDepth 100000
set_option maxHeartbeats 4000000
namespace Sh
open PySem PySem.Spec PyProof.Rows L2
/-- a locked dict with tuple keys, as it lies in the heap -/
structure Lkd (S : Shared) (H : Hp) (d : Addr) (o : Obj) (kvs : List (List Key × V)) (en : Array DictEntry) (p : Nat) : Prop where
  raw : DT.Raw S.heap d en p
  nsm : (d == sysModules) = false
  dat : o.data = .dict en p
  nod : S.heap.get? d = some o ∧ o.dict = none
  sz : en.size = kvs.length
  ent : ∀ (j : Nat) (k : List Key) (v : V), kvs[j]? = some (k, v) → ∃ (x : DictEntry) (c : Addr), en[j]? = some x ∧ x.key = .ref c ∧ H c = some (.tup (k.map kV)) ∧ RelV v x.val
section
variable {P : Program} {w : World} {K : PySem.W.Frag} {d : Addr} {o : Obj} {en : Array DictEntry} {p : Nat}
theorem Lkd.same {S : Shared} {H : Hp} {kvs : List (List Key × V)} {en2 : Array DictEntry} {p2 : Nat} (L : Lkd S H d o kvs en2 p2) (h : o.data = .dict en p) : en2 = en ∧ p2 = p := by
  have := L.dat.symm.trans h
  cases this
  exact ⟨rfl, rfl⟩
end
variable {X : Cx} {W' : WX}
end Sh
set_option linter.all false
set_option maxRecDepth 100000
set_option maxHeartbeats 4000000
set_option linter.all false
set_option maxRecDepth 100000
set_option maxHeartbeats 4000000
set_option linter.all false
set_option maxRecDepth 100000
set_option maxHeartbeats 4000000
set_option linter.all false
set_option maxRecDepth 100000
set_option maxHeartbeats 4000000
set_option linter.all false
set_option maxRecDepth 100000
set_option maxHeartbeats 4000000
set_option linter.all false
set_option maxRecDepth 100000
set_option maxHeartbeats 4000000
set_option linter.all false
set_option maxRecDepth 100000
set_option maxHeartbeats 4000000
set_option linter.all false
set_option maxRecDepth 100000
set_option maxHeartbeats 4000000
set_option linter.all false
set_option maxRecDepth 100000
set_option maxHeartbeats 4000000
set_option linter.all false
set_option maxRecDepth 100000
set_option maxHeartbeats 4000000
set_option linter.all false
set_option maxRecDepth 100000
set_option maxHeartbeats 4000000
namespace Sh
open PySem PySem.Spec PyProof.Rows L2
section
variable {X : Cx} {W' : WX}
theorem PE.or {e : Expr} {t t' : TE} (h : PE X e t) (h' : PE X e t') : PE X e (fun σ H Q => t σ H Q ∨ t' σ H Q) :=
  ⟨fun pins s σ H Q I q => q.elim (h.run pins s σ H Q I) (h'.run pins s σ H Q I)⟩
end
end Sh
set_option linter.all false
set_option maxRecDepth 100000
set_option maxHeartbeats 4000000
namespace Sh
open PySem PySem.Spec PyProof.Rows L2
def b__law_caught (C_PullError : Addr) (C_BadValue : Addr) (C_BadText : Addr) (C_BadGrounds : Addr) (C_NoPort : Addr) (C_NoName : Addr) (C_NoDriver : Addr) (C_NotNow : Addr) (C_TooMany : Addr) : SS :=
  (tryIsS (xtab C_PullError [C_BadValue, C_BadText, C_BadGrounds, C_NoPort, C_NoName, C_NoDriver, C_NotNow, C_TooMany]) 1 (.ob C_NoName) (seqS (ifS (tB (bin eqV (varE 0) (cE (.int 0)))) (raise0S C_TooMany) nextS)
    (raiseXS C_NoName "name" (consA (varE 0) nilA))))
def b__law_foreign (C_PullError : Addr) (C_BadValue : Addr) (C_BadText : Addr) (C_BadGrounds : Addr) (C_NoPort : Addr) (C_NoName : Addr) (C_NoDriver : Addr) (C_NotNow : Addr) (C_TooMany : Addr) : SS :=
  (seqS (ifS (orB (tB (callN (isxV (xtab C_PullError [C_BadValue, C_BadText, C_BadGrounds, C_NoPort, C_NoName, C_NoDriver, C_NotNow, C_TooMany])) (consA (varE 0) (consA (cE (.ty "ValueError")) nilA)))) (tB (callN (isxV (xtab C_PullError [C_BadValue, C_BadText, C_BadGrounds, C_NoPort, C_NoName, C_NoDriver, C_NotNow, C_TooMany])) (consA (varE 0) (consA (cE (.ty "LookupError")) nilA))))) (retS (cE (.bl true))) nextS)
    (retS (orV (callN (isxV (xtab C_PullError [C_BadValue, C_BadText, C_BadGrounds, C_NoPort, C_NoName, C_NoDriver, C_NotNow, C_TooMany])) (consA (varE 0) (consA (cE (.ty "ArithmeticError")) nilA))) (notV (callN (isxV (xtab C_PullError [C_BadValue, C_BadText, C_BadGrounds, C_NoPort, C_NoName, C_NoDriver, C_NotNow, C_TooMany])) (consA (varE 0) (consA (cE (.ty "Exception")) nilA)))))))
def b__law_of (C_PullError : Addr) (C_BadValue : Addr) (C_BadText : Addr) (C_BadGrounds : Addr) (C_NoPort : Addr) (C_NoName : Addr) (C_NoDriver : Addr) (C_NotNow : Addr) (C_TooMany : Addr) : SS :=
  (seqS (setS 1 (lstE (consA (callN (isxV (xtab C_PullError [C_BadValue, C_BadText, C_BadGrounds, C_NoPort, C_NoName, C_NoDriver, C_NotNow, C_TooMany])) (consA (varE 0) (consA (cE (.ob C_BadValue)) nilA))) (consA (callN (isxV (xtab C_PullError [C_BadValue, C_BadText, C_BadGrounds, C_NoPort, C_NoName, C_NoDriver, C_NotNow, C_TooMany])) (consA (varE 0) (consA (cE (.ob C_BadText)) nilA))) (consA (callN (isxV (xtab C_PullError [C_BadValue, C_BadText, C_BadGrounds, C_NoPort, C_NoName, C_NoDriver, C_NotNow, C_TooMany])) (consA (varE 0) (consA (cE (.ob C_BadGrounds)) nilA))) (consA (callN (isxV (xtab C_PullError [C_BadValue, C_BadText, C_BadGrounds, C_NoPort, C_NoName, C_NoDriver, C_NotNow, C_TooMany])) (consA (varE 0) (consA (cE (.ob C_NoPort)) nilA))) nilA))))))
    (retS (bin addV (varE 1) (lstE (consA (callN (isxV (xtab C_PullError [C_BadValue, C_BadText, C_BadGrounds, C_NoPort, C_NoName, C_NoDriver, C_NotNow, C_TooMany])) (consA (varE 0) (consA (cE (.ob C_NoName)) nilA))) (consA (callN (isxV (xtab C_PullError [C_BadValue, C_BadText, C_BadGrounds, C_NoPort, C_NoName, C_NoDriver, C_NotNow, C_TooMany])) (consA (varE 0) (consA (cE (.ob C_NoDriver)) nilA))) (consA (callN (isxV (xtab C_PullError [C_BadValue, C_BadText, C_BadGrounds, C_NoPort, C_NoName, C_NoDriver, C_NotNow, C_TooMany])) (consA (varE 0) (consA (cE (.ob C_NotNow)) nilA))) (consA (callN (isxV (xtab C_PullError [C_BadValue, C_BadText, C_BadGrounds, C_NoPort, C_NoName, C_NoDriver, C_NotNow, C_TooMany])) (consA (varE 0) (consA (cE (.ob C_TooMany)) nilA))) nilA))))))))
def b_law_k00 (C_PullError : Addr) (C_BadValue : Addr) (C_BadText : Addr) (C_BadGrounds : Addr) (C_NoPort : Addr) (C_NoName : Addr) (C_NoDriver : Addr) (C_NotNow : Addr) (C_TooMany : Addr) (f__law_numbers : Fn) (f__law_take : Fn) (f__law_so : Fn) (f__law_of : Fn) (f__law_foreign : Fn) (f__law_caught : Fn) : SS :=
  (seqS (setS 1 (callF f__law_numbers (consA (varE 0) nilA)))
    (seqS (setS 2 (lstE (consA (cE (.int 0)) nilA)))
    (seqS (setS 3 (bin subV (callF f__law_take (consA (varE 1) (consA (varE 2) (consA (cE (.int 997)) nilA)))) (cE (.int 9))))
    (seqS (setS 4 (bin ixV (lstE (consA (cE .non) (consA (un negV (varE 3)) (consA (cE (.str "x")) (consA (tupE (consA (varE 3) (consA (cE (.int 2)) nilA))) (consA (cE (.bl true)) nilA)))))) (callF f__law_take (consA (varE 1) (consA (varE 2) (consA (cE (.int 5)) nilA))))))
    (seqS (forS (seqI (lstE (consA (mkxE C_BadValue "at" (consA (varE 3) nilA)) (consA (mkxE C_BadText "at" (consA (varE 3) nilA)) (consA (mkxE C_BadGrounds "at" (consA (varE 3) nilA)) (consA (mkxE C_BadValue "at" (consA (varE 3) nilA)) (consA (mkxE C_BadText "at" (consA (varE 3) nilA)) (consA (mkxE C_BadGrounds "at" (consA (varE 3) nilA)) nilA)))))))) (nameG 5) (ifS (notB (tB (callF f__law_so (consA (attrXE [C_BadValue, C_BadText, C_BadGrounds] "at" (varE 5)) (consA (varE 3) nilA))))) (retS (cE (.bl false))) nextS))
    (seqS (forS (seqI (lstE (consA (tupE (consA (attrXE [C_NoPort] "path" (mkxE C_NoPort "path" (consA (varE 4) nilA))) (consA (attrXE [C_NoPort] "path" (mkxE C_NoPort "path" (consA (varE 4) nilA))) nilA))) (consA (tupE (consA (attrXE [C_NoName] "name" (mkxE C_NoName "name" (consA (varE 4) nilA))) (consA (attrXE [C_NoName] "name" (mkxE C_NoName "name" (consA (varE 4) nilA))) nilA))) nilA)))) (nameG 6) (ifS (notB (tB (callF f__law_so (consA (varE 6) (consA (tupE (consA (varE 4) (consA (varE 4) nilA))) nilA))))) (retS (cE (.bl false))) nextS))
    (seqS (forS (seqI (lstE (consA (tupE (consA (attrXE [C_NoDriver] "word" (mkxE C_NoDriver "word" (consA (varE 4) nilA))) (consA (attrXE [C_NoDriver] "word" (mkxE C_NoDriver "word" (consA (varE 4) nilA))) nilA))) (consA (tupE (consA (attrXE [C_NotNow] "event" (mkxE C_NotNow "event" (consA (varE 4) nilA))) (consA (attrXE [C_NotNow] "event" (mkxE C_NotNow "event" (consA (varE 4) nilA))) nilA))) nilA)))) (nameG 6) (ifS (notB (tB (callF f__law_so (consA (varE 6) (consA (tupE (consA (varE 4) (consA (varE 4) nilA))) nilA))))) (retS (cE (.bl false))) nextS))
    (seqS (setS 7 (lstE (consA (mkxE C_BadValue "at" (consA (varE 3) nilA)) (consA (mkxE C_BadText "at" (consA (varE 3) nilA)) (consA (mkxE C_BadGrounds "at" (consA (varE 3) nilA)) (consA (mkxE C_NoPort "path" (consA (varE 4) nilA)) (consA (mkxE C_NoName "name" (consA (varE 4) nilA)) (consA (mkxE C_NoDriver "word" (consA (varE 4) nilA)) (consA (mkxE C_NotNow "event" (consA (varE 4) nilA)) (consA (mk0E C_TooMany) nilA))))))))))
    (seqS (forS (rng1I (consA (cE (.int 8)) nilA)) (nameG 8) (ifS (orB (tB (bin neV (callF f__law_of (consA (bin ixV (varE 7) (varE 8)) nilA)) (lcE (rng1I (consA (cE (.int 8)) nilA)) (nameG 9) yesB (bin eqV (varE 9) (varE 8)) [9]))) (orB (tB (callF f__law_foreign (consA (bin ixV (varE 7) (varE 8)) nilA))) (notB (tB (callN (isxV (xtab C_PullError [C_BadValue, C_BadText, C_BadGrounds, C_NoPort, C_NoName, C_NoDriver, C_NotNow, C_TooMany])) (consA (bin ixV (varE 7) (varE 8)) (consA (cE (.ob C_PullError)) nilA))))))) (retS (cE (.bl false))) nextS))
    (retS (andV (notV (callF f__law_caught (consA (cE (.int 0)) nilA))) (callF f__law_caught (consA (bin addV (cE (.int 1)) (callF f__law_take (consA (varE 1) (consA (varE 2) (consA (cE (.int 9)) nilA))))) nilA)))))))))))))
def b_law_k00_rest (C_PullError : Addr) (C_BadValue : Addr) (C_BadText : Addr) (C_BadGrounds : Addr) (C_NoPort : Addr) (C_NoName : Addr) (C_NoDriver : Addr) (C_NotNow : Addr) (C_TooMany : Addr) (f__law_numbers : Fn) (f__law_take : Fn) (f__law_so : Fn) (f__law_of : Fn) (f__law_foreign : Fn) (f__law_caught : Fn) : SS :=
  (seqS (setS 3 (bin subV (callF f__law_take (consA (varE 1) (consA (varE 2) (consA (cE (.int 997)) nilA)))) (cE (.int 9))))
    (seqS (setS 4 (bin ixV (lstE (consA (cE .non) (consA (un negV (varE 3)) (consA (cE (.str "x")) (consA (tupE (consA (varE 3) (consA (cE (.int 2)) nilA))) (consA (cE (.bl true)) nilA)))))) (callF f__law_take (consA (varE 1) (consA (varE 2) (consA (cE (.int 5)) nilA))))))
    (seqS (forS (seqI (lstE (consA (mkxE C_BadValue "at" (consA (varE 3) nilA)) (consA (mkxE C_BadText "at" (consA (varE 3) nilA)) (consA (mkxE C_BadGrounds "at" (consA (varE 3) nilA)) (consA (mkxE C_BadValue "at" (consA (varE 3) nilA)) (consA (mkxE C_BadText "at" (consA (varE 3) nilA)) (consA (mkxE C_BadGrounds "at" (consA (varE 3) nilA)) nilA)))))))) (nameG 5) (ifS (notB (tB (callF f__law_so (consA (attrXE [C_BadValue, C_BadText, C_BadGrounds] "at" (varE 5)) (consA (varE 3) nilA))))) (retS (cE (.bl false))) nextS))
    (seqS (forS (seqI (lstE (consA (tupE (consA (attrXE [C_NoPort] "path" (mkxE C_NoPort "path" (consA (varE 4) nilA))) (consA (attrXE [C_NoPort] "path" (mkxE C_NoPort "path" (consA (varE 4) nilA))) nilA))) (consA (tupE (consA (attrXE [C_NoName] "name" (mkxE C_NoName "name" (consA (varE 4) nilA))) (consA (attrXE [C_NoName] "name" (mkxE C_NoName "name" (consA (varE 4) nilA))) nilA))) nilA)))) (nameG 6) (ifS (notB (tB (callF f__law_so (consA (varE 6) (consA (tupE (consA (varE 4) (consA (varE 4) nilA))) nilA))))) (retS (cE (.bl false))) nextS))
    (seqS (forS (seqI (lstE (consA (tupE (consA (attrXE [C_NoDriver] "word" (mkxE C_NoDriver "word" (consA (varE 4) nilA))) (consA (attrXE [C_NoDriver] "word" (mkxE C_NoDriver "word" (consA (varE 4) nilA))) nilA))) (consA (tupE (consA (attrXE [C_NotNow] "event" (mkxE C_NotNow "event" (consA (varE 4) nilA))) (consA (attrXE [C_NotNow] "event" (mkxE C_NotNow "event" (consA (varE 4) nilA))) nilA))) nilA)))) (nameG 6) (ifS (notB (tB (callF f__law_so (consA (varE 6) (consA (tupE (consA (varE 4) (consA (varE 4) nilA))) nilA))))) (retS (cE (.bl false))) nextS))
    (seqS (setS 7 (lstE (consA (mkxE C_BadValue "at" (consA (varE 3) nilA)) (consA (mkxE C_BadText "at" (consA (varE 3) nilA)) (consA (mkxE C_BadGrounds "at" (consA (varE 3) nilA)) (consA (mkxE C_NoPort "path" (consA (varE 4) nilA)) (consA (mkxE C_NoName "name" (consA (varE 4) nilA)) (consA (mkxE C_NoDriver "word" (consA (varE 4) nilA)) (consA (mkxE C_NotNow "event" (consA (varE 4) nilA)) (consA (mk0E C_TooMany) nilA))))))))))
    (seqS (forS (rng1I (consA (cE (.int 8)) nilA)) (nameG 8) (ifS (orB (tB (bin neV (callF f__law_of (consA (bin ixV (varE 7) (varE 8)) nilA)) (lcE (rng1I (consA (cE (.int 8)) nilA)) (nameG 9) yesB (bin eqV (varE 9) (varE 8)) [9]))) (orB (tB (callF f__law_foreign (consA (bin ixV (varE 7) (varE 8)) nilA))) (notB (tB (callN (isxV (xtab C_PullError [C_BadValue, C_BadText, C_BadGrounds, C_NoPort, C_NoName, C_NoDriver, C_NotNow, C_TooMany])) (consA (bin ixV (varE 7) (varE 8)) (consA (cE (.ob C_PullError)) nilA))))))) (retS (cE (.bl false))) nextS))
    (retS (andV (notV (callF f__law_caught (consA (cE (.int 0)) nilA))) (callF f__law_caught (consA (bin addV (cE (.int 1)) (callF f__law_take (consA (varE 1) (consA (varE 2) (consA (cE (.int 9)) nilA))))) nilA)))))))))))
end Sh
set_option linter.all false
set_option maxRecDepth 100000
set_option maxHeartbeats 4000000
namespace Sh
open PySem PySem.Spec PyProof.Rows L2
/-- the tuple at a has these ints and texts -/
abbrev MT (P : Program) (w : World) (h : Heap) (k : List Key) (a : Addr) : Prop := IsTupleKey (mixKind P w) h k a
abbrev mh (P : Program) (w : World) (k : List Key) : Int := tupleKeyHash (mixKind P w) k
def rowM (P : Program) (w : World) (p : Addr × List Key) : Int × Value := (mh P w p.2, .ref p.1)
def hsM (P : Program) (w : World) (L : List (Addr × List Key)) : List Int := L.map fun p => mh P w p.2
structure SR (P : Program) (w : World) (h : Heap) (a : Addr) (L : List (Addr × List Key)) (es : Array (Int × Value)) (ep : Nat) (t : SetTable) : Prop where
  obj : ∃ o, h.get? a = some o ∧ o.ExactSet ∧ o.data = .set es ep t
  ent : es.toList = L.map (rowM P w)
  tab : TabOk t (hsM P w L)
  nd : (L.map Prod.snd).Nodup
  mem : ∀ p ∈ L, MT P w h p.2 p.1
  led : w.params.followText "set-order" = true ∨ t.led = true
  room : L.length * 5 < t.mask * 3
section
variable {P : Program} {w : World} {A : Around} {E : Value → Shared → Prop} {s : Shared} {a : Addr} {L : List (Addr × List Key)} {es : Array (Int × Value)} {ep : Nat} {t : SetTable}
theorem SR.size (r : SR P w s.heap a L es ep t) : es.size = L.length := by
  rw [← Array.length_toList, r.ent, List.length_map]
theorem SR.at (r : SR P w s.heap a L es ep t) {i : Nat} {p : Addr × List Key} (h : L[i]? = some p) : es[i]? = some (mh P w p.2, Value.ref p.1) := by
  rw [← Array.getElem?_toList, r.ent, List.getElem?_map, h]
  rfl
end
end Sh
set_option linter.all false
set_option maxRecDepth 100000
set_option maxHeartbeats 4000000
set_option linter.all false
set_option maxRecDepth 100000
set_option maxHeartbeats 4000000
set_option linter.all false
set_option maxRecDepth 100000
set_option maxHeartbeats 4000000
namespace Sh
open PySem PySem.Spec PyProof.Rows L2
theorem gv_ob {K : PySem.W.Frag} {mg : Str → Option Value} {x : Str} {C : Addr} (h : mg x = some (.ref C)) : GVal K mg x (.ob C) := ⟨⟨.ref C, .ref C, h, rfl, fun loc H => .ob C⟩⟩
theorem all8 {P : Addr → Prop} {c1 c2 c3 c4 c5 c6 c7 c8 : Addr} (h1 : P c1) (h2 : P c2) (h3 : P c3) (h4 : P c4) (h5 : P c5) (h6 : P c6) (h7 : P c7) (h8 : P c8) : ∀ C ∈ [c1, c2, c3, c4, c5, c6, c7, c8], P C := fun C hC => by
  simp only [List.mem_cons, List.not_mem_nil, or_false] at hC
  rcases hC with rfl | rfl | rfl | rfl | rfl | rfl | rfl | rfl <;> assumption
theorem all1 {P : Addr → Prop} {c1 : Addr} (h1 : P c1) : ∀ C ∈ [c1], P C := fun C hC => by
  rw [List.mem_singleton.mp hC]; exact h1
theorem all3 {P : Addr → Prop} {c1 c2 c3 : Addr} (h1 : P c1) (h2 : P c2) (h3 : P c3) : ∀ C ∈ [c1, c2, c3], P C := fun C hC => by
  simp only [List.mem_cons, List.not_mem_nil, or_false] at hC
  rcases hC with rfl | rfl | rfl <;> assumption
theorem kit_eq {K : PySem.W.Frag} {a : Addr} : PySem.W.kitOne K (.ref a) (.ref a) = some (decide (a = a)) := by
  unfold PySem.W.kitOne
  rw [if_pos (beq_self_eq_true _), decide_eq_true rfl]
theorem kit_ne {K : PySem.W.Frag} {a b : Addr} (h : PySem.W.kitOne K (.ref a) (.ref b) = some false) : PySem.W.kitOne K (.ref a) (.ref b) = some (decide (a = b)) := by
  by_cases e : a = b
  · subst e
    rw [kit_eq] at h
    rw [kit_eq]
  · rw [decide_eq_false e]; exact h
theorem hm_of {K : PySem.W.Frag} {B D : Addr} {Cs : List Addr} (h : ∀ C ∈ Cs, PySem.W.exmOne K (.ref C) (.ref B) = some true) : ∀ C b, xtab B Cs C (.ob D) = some b → PySem.W.exmOne K (.ref C) (.ref B) = some true := fun C b e => by
  unfold xtab at e
  by_cases hC : C ∈ Cs
  · exact h C hC
  · rw [if_neg hC] at e; cases e
theorem at_mg {K : PySem.W.Frag} {h : Heap} {mg : Str → Option Value} {cn : Str} {C : Addr} (X : K.In h) (G : h.Ns mainGlobals mg) (aC : PySem.W.nsIn K mainGlobals cn = some (some (.ref C))) : mg cn = some (.ref C) := PySem.W.mg_of X G aC
theorem fgn {K : PySem.W.Frag} {C : Addr} (h1 : PySem.W.kitOne K (.ref C) (.type "ValueError") = some false) (h2 : PySem.W.kitOne K (.ref C) (.type "LookupError") = some false) (h3 : PySem.W.kitOne K (.ref C) (.type "ArithmeticError") = some false) : ∀ n ∈ foreigns, PySem.W.kitOne K (.ref C) (.type n) = some false := fun n hn => by
  unfold foreigns at hn
  simp only [List.mem_cons, List.not_mem_nil, or_false] at hn
  rcases hn with rfl | rfl | rfl <;> assumption
end Sh
namespace XF_at
open PySem PySem.Spec PySem.W PySem.Calls PyProof.Rows XB
theorem at_mk {K : PySem.W.Frag} {h : Heap} {mg : Str → Option Value} {cn qn : Str} {C fI : Addr} {nm q : Str} {N : Addr} {bs bm : List Value} {sn : List Str} {sub : List Value} {ab : Bool} {col : Option Bool} {dd : Option Addr} {m0 m1 m2 m3 m5 : Option Value}
    {od1 an1 : Option Addr} {sl1 : Array (Option Value)} {oc1 dc1 pm1 cd1 ct1 : Value} {p1 p2 q1 q2 q3 q4 : Pos} (X : K.In h) (G : h.Ns mainGlobals mg)
    (aC : PySem.W.nsIn K mainGlobals cn = some (some (.ref C)))
    (xL : K.lookup C = some (excClassObj nm q C N bs bm true sn sub ab col dd m0 m1 m2 m3 m5 "Exception.__new__")) (hb : PySem.W.excTail ErX.exT bm = true)
    (sa : PySem.W.findIn K (.ref C) "__setattr__" = some (some (.builtin "object.__setattr__"))) (nb : PySem.W.findIn K (.ref C) "at" = some none)
    (a1 : PySem.W.findIn K (.ref C) "__init__" = some (some (.ref fI))) (t1 : PySem.W.typeIn K (.ref fI) = some (.type "function"))
    (l1 : K.lookup fI = some ⟨oc1, od1, .func (PySem.W.fnOf "__init__" qn (iA p1 p2) (iB q1 q2 q3 q4) iS .none .none dc1 pm1 an1 cd1 ct1), sl1⟩) (c1 : PySem.W.codeIn K cd1 qn = true)
    (kC : PySem.W.keepIn K (.ref C) = true) : XB.MkOk K mg cn C "at" :=
  ok (qn := qn) (fI := fI) { gC := PySem.W.mg_of X G aC, cls := ⟨nm, q, N, bs, bm, sn, sub, ab, col, dd, m0, m1, m2, m3, m5, xL, hb⟩, sa := sa, noN := nb, iC := a1, tC := t1, kC := kC, fn := ⟨_, _, _, _, _, _, _, _, _, _, _, _, _, _, l1, c1⟩ }
end XF_at
namespace XF_path
open PySem PySem.Spec PySem.W PySem.Calls PyProof.Rows XB
theorem at_mk {K : PySem.W.Frag} {h : Heap} {mg : Str → Option Value} {cn qn : Str} {C fI : Addr} {nm q : Str} {N : Addr} {bs bm : List Value} {sn : List Str} {sub : List Value} {ab : Bool} {col : Option Bool} {dd : Option Addr} {m0 m1 m2 m3 m5 : Option Value}
    {od1 an1 : Option Addr} {sl1 : Array (Option Value)} {oc1 dc1 pm1 cd1 ct1 : Value} {p1 p2 q1 q2 q3 q4 : Pos} (X : K.In h) (G : h.Ns mainGlobals mg)
    (aC : PySem.W.nsIn K mainGlobals cn = some (some (.ref C)))
    (xL : K.lookup C = some (excClassObj nm q C N bs bm true sn sub ab col dd m0 m1 m2 m3 m5 "Exception.__new__")) (hb : PySem.W.excTail ErX.exT bm = true)
    (sa : PySem.W.findIn K (.ref C) "__setattr__" = some (some (.builtin "object.__setattr__"))) (nb : PySem.W.findIn K (.ref C) "path" = some none)
    (a1 : PySem.W.findIn K (.ref C) "__init__" = some (some (.ref fI))) (t1 : PySem.W.typeIn K (.ref fI) = some (.type "function"))
    (l1 : K.lookup fI = some ⟨oc1, od1, .func (PySem.W.fnOf "__init__" qn (iA p1 p2) (iB q1 q2 q3 q4) iS .none .none dc1 pm1 an1 cd1 ct1), sl1⟩) (c1 : PySem.W.codeIn K cd1 qn = true)
    (kC : PySem.W.keepIn K (.ref C) = true) : XB.MkOk K mg cn C "path" :=
  ok (qn := qn) (fI := fI) { gC := PySem.W.mg_of X G aC, cls := ⟨nm, q, N, bs, bm, sn, sub, ab, col, dd, m0, m1, m2, m3, m5, xL, hb⟩, sa := sa, noN := nb, iC := a1, tC := t1, kC := kC, fn := ⟨_, _, _, _, _, _, _, _, _, _, _, _, _, _, l1, c1⟩ }
end XF_path
namespace XF_name
open PySem PySem.Spec PySem.W PySem.Calls PyProof.Rows XB
theorem at_mk {K : PySem.W.Frag} {h : Heap} {mg : Str → Option Value} {cn qn : Str} {C fI : Addr} {nm q : Str} {N : Addr} {bs bm : List Value} {sn : List Str} {sub : List Value} {ab : Bool} {col : Option Bool} {dd : Option Addr} {m0 m1 m2 m3 m5 : Option Value}
    {od1 an1 : Option Addr} {sl1 : Array (Option Value)} {oc1 dc1 pm1 cd1 ct1 : Value} {p1 p2 q1 q2 q3 q4 : Pos} (X : K.In h) (G : h.Ns mainGlobals mg)
    (aC : PySem.W.nsIn K mainGlobals cn = some (some (.ref C)))
    (xL : K.lookup C = some (excClassObj nm q C N bs bm true sn sub ab col dd m0 m1 m2 m3 m5 "Exception.__new__")) (hb : PySem.W.excTail ErX.exT bm = true)
    (sa : PySem.W.findIn K (.ref C) "__setattr__" = some (some (.builtin "object.__setattr__"))) (nb : PySem.W.findIn K (.ref C) "name" = some none)
    (a1 : PySem.W.findIn K (.ref C) "__init__" = some (some (.ref fI))) (t1 : PySem.W.typeIn K (.ref fI) = some (.type "function"))
    (l1 : K.lookup fI = some ⟨oc1, od1, .func (PySem.W.fnOf "__init__" qn (iA p1 p2) (iB q1 q2 q3 q4) iS .none .none dc1 pm1 an1 cd1 ct1), sl1⟩) (c1 : PySem.W.codeIn K cd1 qn = true)
    (kC : PySem.W.keepIn K (.ref C) = true) : XB.MkOk K mg cn C "name" :=
  ok (qn := qn) (fI := fI) { gC := PySem.W.mg_of X G aC, cls := ⟨nm, q, N, bs, bm, sn, sub, ab, col, dd, m0, m1, m2, m3, m5, xL, hb⟩, sa := sa, noN := nb, iC := a1, tC := t1, kC := kC, fn := ⟨_, _, _, _, _, _, _, _, _, _, _, _, _, _, l1, c1⟩ }
end XF_name
namespace XF_word
open PySem PySem.Spec PySem.W PySem.Calls PyProof.Rows XB
theorem at_mk {K : PySem.W.Frag} {h : Heap} {mg : Str → Option Value} {cn qn : Str} {C fI : Addr} {nm q : Str} {N : Addr} {bs bm : List Value} {sn : List Str} {sub : List Value} {ab : Bool} {col : Option Bool} {dd : Option Addr} {m0 m1 m2 m3 m5 : Option Value}
    {od1 an1 : Option Addr} {sl1 : Array (Option Value)} {oc1 dc1 pm1 cd1 ct1 : Value} {p1 p2 q1 q2 q3 q4 : Pos} (X : K.In h) (G : h.Ns mainGlobals mg)
    (aC : PySem.W.nsIn K mainGlobals cn = some (some (.ref C)))
    (xL : K.lookup C = some (excClassObj nm q C N bs bm true sn sub ab col dd m0 m1 m2 m3 m5 "Exception.__new__")) (hb : PySem.W.excTail ErX.exT bm = true)
    (sa : PySem.W.findIn K (.ref C) "__setattr__" = some (some (.builtin "object.__setattr__"))) (nb : PySem.W.findIn K (.ref C) "word" = some none)
    (a1 : PySem.W.findIn K (.ref C) "__init__" = some (some (.ref fI))) (t1 : PySem.W.typeIn K (.ref fI) = some (.type "function"))
    (l1 : K.lookup fI = some ⟨oc1, od1, .func (PySem.W.fnOf "__init__" qn (iA p1 p2) (iB q1 q2 q3 q4) iS .none .none dc1 pm1 an1 cd1 ct1), sl1⟩) (c1 : PySem.W.codeIn K cd1 qn = true)
    (kC : PySem.W.keepIn K (.ref C) = true) : XB.MkOk K mg cn C "word" :=
  ok (qn := qn) (fI := fI) { gC := PySem.W.mg_of X G aC, cls := ⟨nm, q, N, bs, bm, sn, sub, ab, col, dd, m0, m1, m2, m3, m5, xL, hb⟩, sa := sa, noN := nb, iC := a1, tC := t1, kC := kC, fn := ⟨_, _, _, _, _, _, _, _, _, _, _, _, _, _, l1, c1⟩ }
end XF_word
namespace XF_event
open PySem PySem.Spec PySem.W PySem.Calls PyProof.Rows XB
theorem at_mk {K : PySem.W.Frag} {h : Heap} {mg : Str → Option Value} {cn qn : Str} {C fI : Addr} {nm q : Str} {N : Addr} {bs bm : List Value} {sn : List Str} {sub : List Value} {ab : Bool} {col : Option Bool} {dd : Option Addr} {m0 m1 m2 m3 m5 : Option Value}
    {od1 an1 : Option Addr} {sl1 : Array (Option Value)} {oc1 dc1 pm1 cd1 ct1 : Value} {p1 p2 q1 q2 q3 q4 : Pos} (X : K.In h) (G : h.Ns mainGlobals mg)
    (aC : PySem.W.nsIn K mainGlobals cn = some (some (.ref C)))
    (xL : K.lookup C = some (excClassObj nm q C N bs bm true sn sub ab col dd m0 m1 m2 m3 m5 "Exception.__new__")) (hb : PySem.W.excTail ErX.exT bm = true)
    (sa : PySem.W.findIn K (.ref C) "__setattr__" = some (some (.builtin "object.__setattr__"))) (nb : PySem.W.findIn K (.ref C) "event" = some none)
    (a1 : PySem.W.findIn K (.ref C) "__init__" = some (some (.ref fI))) (t1 : PySem.W.typeIn K (.ref fI) = some (.type "function"))
    (l1 : K.lookup fI = some ⟨oc1, od1, .func (PySem.W.fnOf "__init__" qn (iA p1 p2) (iB q1 q2 q3 q4) iS .none .none dc1 pm1 an1 cd1 ct1), sl1⟩) (c1 : PySem.W.codeIn K cd1 qn = true)
    (kC : PySem.W.keepIn K (.ref C) = true) : XB.MkOk K mg cn C "event" :=
  ok (qn := qn) (fI := fI) { gC := PySem.W.mg_of X G aC, cls := ⟨nm, q, N, bs, bm, sn, sub, ab, col, dd, m0, m1, m2, m3, m5, xL, hb⟩, sa := sa, noN := nb, iC := a1, tC := t1, kC := kC, fn := ⟨_, _, _, _, _, _, _, _, _, _, _, _, _, _, l1, c1⟩ }
end XF_event
set_option linter.all false
set_option maxRecDepth 100000
set_option maxHeartbeats 8000000
namespace Sh
open PySem PySem.Spec PyProof.Rows L2
def top (i : Nat) : Stmt := PySem.Challenge.pw_pullsafe_k00_errors.main.body.getD i (.Pass ⟨0, 0, 0, 0⟩)
structure Top (K : PySem.W.Frag) (w : World) (mg : Str → Option Value) (C_PullError : Addr) (C_BadValue : Addr) (C_BadText : Addr) (C_BadGrounds : Addr) (C_NoPort : Addr) (C_NoName : Addr) (C_NoDriver : Addr) (C_NotNow : Addr) (C_TooMany : Addr) : Prop where
  n_range : mg "range" = none
  n_int : mg "int" = none
  n_len : mg "len" = none
  g_PullError : GVal K mg "PullError" (.ob C_PullError)
  g_BadValue : GVal K mg "BadValue" (.ob C_BadValue)
  g_BadText : GVal K mg "BadText" (.ob C_BadText)
  g_BadGrounds : GVal K mg "BadGrounds" (.ob C_BadGrounds)
  g_NoPort : GVal K mg "NoPort" (.ob C_NoPort)
  g_NoName : GVal K mg "NoName" (.ob C_NoName)
  g_NoDriver : GVal K mg "NoDriver" (.ob C_NoDriver)
  g_NotNow : GVal K mg "NotNow" (.ob C_NotNow)
  g_TooMany : GVal K mg "TooMany" (.ob C_TooMany)
  k_BadValue : XB.MkOk K mg "BadValue" C_BadValue "at"
  k_BadText : XB.MkOk K mg "BadText" C_BadText "at"
  k_BadGrounds : XB.MkOk K mg "BadGrounds" C_BadGrounds "at"
  k_NoPort : XB.MkOk K mg "NoPort" C_NoPort "path"
  k_NoName : XB.MkOk K mg "NoName" C_NoName "name"
  k_NoDriver : XB.MkOk K mg "NoDriver" C_NoDriver "word"
  k_NotNow : XB.MkOk K mg "NotNow" C_NotNow "event"
  z_TooMany : MkNo K mg "TooMany" C_TooMany
  r_TooMany : RaOk K C_TooMany
  r_NoName : RaOk K C_NoName
  gB : mg "PullError" = some (.ref C_PullError)
  xa_at : ∀ C ∈ [C_BadValue, C_BadText, C_BadGrounds], ExcC K C ∧ PySem.W.findIn K (.ref C) "at" = some none
  xa_event : ∀ C ∈ [C_NotNow], ExcC K C ∧ PySem.W.findIn K (.ref C) "event" = some none
  xa_name : ∀ C ∈ [C_NoName], ExcC K C ∧ PySem.W.findIn K (.ref C) "name" = some none
  xa_path : ∀ C ∈ [C_NoPort], ExcC K C ∧ PySem.W.findIn K (.ref C) "path" = some none
  xa_word : ∀ C ∈ [C_NoDriver], ExcC K C ∧ PySem.W.findIn K (.ref C) "word" = some none
  xt : XTabOk K (xtab C_PullError [C_BadValue, C_BadText, C_BadGrounds, C_NoPort, C_NoName, C_NoDriver, C_NotNow, C_TooMany])
  hm : ∀ C b, xtab C_PullError [C_BadValue, C_BadText, C_BadGrounds, C_NoPort, C_NoName, C_NoDriver, C_NotNow, C_TooMany] C (.ob C_NoName) = some b → PySem.W.exmOne K (.ref C) (.ref C_PullError) = some true
  n_isinstance : mg "isinstance" = none
  n_tuple : mg "tuple" = none
  n_bool : mg "bool" = none
  n_str : mg "str" = none
  n_ValueError : mg "ValueError" = none
  n_LookupError : mg "LookupError" = none
  n_ArithmeticError : mg "ArithmeticError" = none
  n_Exception : mg "Exception" = none
abbrev s__law_numbers : Stmt := top 12
abbrev N__law_numbers : List Str := ["script", "row", "cell", "left", "k", "mixed"]
theorem sc__law_numbers : FnScope N__law_numbers ["script"] (defScope s__law_numbers) := ⟨rfl, rfl, rfl, by decide +kernel, rfl, by decide +kernel, by decide +kernel⟩
theorem k__law_numbers {P : Program} {w : World} {K : PySem.W.Frag} {mg : Str → Option Value} {base : Heap} {k : Nat} {C_PullError : Addr} {C_BadValue : Addr} {C_BadText : Addr} {C_BadGrounds : Addr} {C_NoPort : Addr} {C_NoName : Addr} {C_NoDriver : Addr} {C_NotNow : Addr} {C_TooMany : Addr} (T : Top K w mg C_PullError C_BadValue C_BadText C_BadGrounds C_NoPort C_NoName C_NoDriver C_NotNow C_TooMany) (D : DefAt K mg "_law_numbers" s__law_numbers ["script"]) :
    GFn P w K mg base (k + 1) "_law_numbers" ["script"] (runB 6 (b__law_numbers)) := by
  refine g_def (N := N__law_numbers) D sc__law_numbers fun f cdv A outer s0 H E hr => ?_
  have nd := sc__law_numbers.nd
  have tk : Takes (cxOf (L2.CX P w) P w K mg base N__law_numbers "_law_numbers" (defScope s__law_numbers) f cdv A outer s0 H E) (fun cls d _ H => E cls d H) := takes_of rfl rfl rfl rfl
  have po : PassesOwn (model P w) (cxOf (L2.CX P w) P w K mg base N__law_numbers "_law_numbers" (defScope s__law_numbers) f cdv A outer s0 H E).A (cxOf (L2.CX P w) P w K mg base N__law_numbers "_law_numbers" (defScope s__law_numbers) f cdv A outer s0 H E).env (cxOf (L2.CX P w) P w K mg base N__law_numbers "_law_numbers" (defScope s__law_numbers) f cdv A outer s0 H E).xe := passes_of rfl
  exact (sl_cons (ss_set (i := 1) nd rfl (by first | exact Or.inl rfl | exact Or.inr rfl) (se_lst sa_nil))
    (sl_cons (ss_for po rfl (si_seq (se_slice (se_v 0) sp_none (sp_some se_int))) (sg_name (i := 2) nd rfl (by first | exact Or.inl rfl | exact Or.inr rfl)) (sl_one (ss_if (sb_cmp o_ge (se_v 2) (se_bin o_pow se_int se_int) (nomark _)) (sl_cons (ss_set (i := 3) nd rfl (by first | exact Or.inl rfl | exact Or.inr rfl) (se_v 2))
    (sl_one (ss_for po rfl (si_range1 rfl T.n_range (sa_cons se_int sa_nil)) (sg_name (i := 4) nd rfl (by first | exact Or.inl rfl | exact Or.inr rfl)) (sl_cons (ss_if (sb_cmp (o_eq hr.units) (se_v 3) se_int (nomark _)) (sl_one ss_break) sl_nil)
    (sl_cons (ss_expr (se_append (se_v 1) (sa_cons (se_bin o_mod (se_callTy c_int rfl T.n_int (by decide +kernel) (sa_cons (se_v 3) sa_nil)) se_int) sa_nil)))
    (sl_one (ss_set (i := 3) nd rfl (by first | exact Or.inl rfl | exact Or.inr rfl) (se_bin o_fdiv (se_v 3) se_int)))))))) (sl_one (ss_for po rfl (si_range1 rfl T.n_range (sa_cons se_int sa_nil)) (sg_name (i := 4) nd rfl (by first | exact Or.inl rfl | exact Or.inr rfl)) (sl_cons (ss_set (i := 5) nd rfl (by first | exact Or.inl rfl | exact Or.inr rfl) (se_bin o_mod (se_callTy c_int rfl T.n_int (by decide +kernel) (sa_cons (se_bin o_add (se_bin o_add (se_bin o_mul (se_v 2) se_int) (se_bin o_mul (se_v 4) se_int)) se_int) sa_nil)) se_int))
    (sl_one (ss_expr (se_append (se_v 1) (sa_cons (se_bin o_mod (se_callTy c_int rfl T.n_int (by decide +kernel) (sa_cons (se_bin o_add (se_bin o_mul (se_v 5) se_int) (se_v 4)) sa_nil)) se_int) sa_nil))))))))))
    (sl_cons (ss_if (sb_cmp (o_eq hr.units) (se_callB c_len rfl T.n_len (by decide +kernel) (sa_cons (se_v 1) sa_nil)) se_int (nomark _)) (sl_one (ss_expr (se_append (se_v 1) (sa_cons se_int sa_nil)))) sl_nil)
    (sl_one (ss_ret (se_v 1))))))
abbrev s__law_draw : Stmt := top 13
abbrev N__law_draw : List Str := ["row", "at", "limit", "mixed"]
theorem sc__law_draw : FnScope N__law_draw ["row", "at", "limit"] (defScope s__law_draw) := ⟨rfl, rfl, rfl, by decide +kernel, rfl, by decide +kernel, by decide +kernel⟩
theorem k__law_draw {P : Program} {w : World} {K : PySem.W.Frag} {mg : Str → Option Value} {base : Heap} {k : Nat} {C_PullError : Addr} {C_BadValue : Addr} {C_BadText : Addr} {C_BadGrounds : Addr} {C_NoPort : Addr} {C_NoName : Addr} {C_NoDriver : Addr} {C_NotNow : Addr} {C_TooMany : Addr} (T : Top K w mg C_PullError C_BadValue C_BadText C_BadGrounds C_NoPort C_NoName C_NoDriver C_NotNow C_TooMany) (D : DefAt K mg "_law_draw" s__law_draw ["row", "at", "limit"]) :
    GFn P w K mg base (k + 1) "_law_draw" ["row", "at", "limit"] (runB 4 (b__law_draw)) := by
  refine g_def (N := N__law_draw) D sc__law_draw fun f cdv A outer s0 H E hr => ?_
  have nd := sc__law_draw.nd
  have tk : Takes (cxOf (L2.CX P w) P w K mg base N__law_draw "_law_draw" (defScope s__law_draw) f cdv A outer s0 H E) (fun cls d _ H => E cls d H) := takes_of rfl rfl rfl rfl
  have po : PassesOwn (model P w) (cxOf (L2.CX P w) P w K mg base N__law_draw "_law_draw" (defScope s__law_draw) f cdv A outer s0 H E).A (cxOf (L2.CX P w) P w K mg base N__law_draw "_law_draw" (defScope s__law_draw) f cdv A outer s0 H E).env (cxOf (L2.CX P w) P w K mg base N__law_draw "_law_draw" (defScope s__law_draw) f cdv A outer s0 H E).xe := passes_of rfl
  exact (sl_cons (ss_if (sb_cmp o_lt (se_v 1) (se_callB c_len rfl T.n_len (by decide +kernel) (sa_cons (se_v 0) sa_nil)) (nomark _)) (sl_one (ss_ret (se_bin o_mod (se_callTy c_int rfl T.n_int (by decide +kernel) (sa_cons (se_ix o_ix (se_v 0) (se_v 1)) sa_nil)) (se_v 2)))) sl_nil)
    (sl_cons (ss_set (i := 3) nd rfl (by first | exact Or.inl rfl | exact Or.inr rfl) (se_bin o_mod (se_callTy c_int rfl T.n_int (by decide +kernel) (sa_cons (se_bin o_add (se_bin o_add (se_bin o_mul (se_ix o_ix (se_v 0) (se_bin o_mod (se_callTy c_int rfl T.n_int (by decide +kernel) (sa_cons (se_v 1) sa_nil)) (se_callB c_len rfl T.n_len (by decide +kernel) (sa_cons (se_v 0) sa_nil)))) se_int) (se_bin o_mul (se_v 1) se_int)) se_int) sa_nil)) se_int))
    (sl_one (ss_ret (se_bin o_mod (se_callTy c_int rfl T.n_int (by decide +kernel) (sa_cons (se_bin o_mod (se_callTy c_int rfl T.n_int (by decide +kernel) (sa_cons (se_bin o_add (se_bin o_mul (se_v 3) se_int) (se_v 1)) sa_nil)) se_int) sa_nil)) (se_v 2))))))
abbrev s__law_take : Stmt := top 14
abbrev N__law_take : List Str := ["row", "spot", "limit"]
theorem sc__law_take : FnScope N__law_take ["row", "spot", "limit"] (defScope s__law_take) := ⟨rfl, rfl, rfl, by decide +kernel, rfl, by decide +kernel, by decide +kernel⟩
theorem k__law_take {P : Program} {w : World} {K : PySem.W.Frag} {mg : Str → Option Value} {base : Heap} {k : Nat} {C_PullError : Addr} {C_BadValue : Addr} {C_BadText : Addr} {C_BadGrounds : Addr} {C_NoPort : Addr} {C_NoName : Addr} {C_NoDriver : Addr} {C_NotNow : Addr} {C_TooMany : Addr} {f__law_draw : Fn} (T : Top K w mg C_PullError C_BadValue C_BadText C_BadGrounds C_NoPort C_NoName C_NoDriver C_NotNow C_TooMany) (D : DefAt K mg "_law_take" s__law_take ["row", "spot", "limit"]) (h__law_draw : GFn P w K mg base k "_law_draw" ["row", "at", "limit"] f__law_draw) :
    GFn P w K mg base (k + 1) "_law_take" ["row", "spot", "limit"] (runB 3 (b__law_take f__law_draw)) := by
  refine g_def (N := N__law_take) D sc__law_take fun f cdv A outer s0 H E hr => ?_
  have nd := sc__law_take.nd
  have tk : Takes (cxOf (L2.CX P w) P w K mg base N__law_take "_law_take" (defScope s__law_take) f cdv A outer s0 H E) (fun cls d _ H => E cls d H) := takes_of rfl rfl rfl rfl
  have po : PassesOwn (model P w) (cxOf (L2.CX P w) P w K mg base N__law_take "_law_take" (defScope s__law_take) f cdv A outer s0 H E).A (cxOf (L2.CX P w) P w K mg base N__law_take "_law_take" (defScope s__law_take) f cdv A outer s0 H E).env (cxOf (L2.CX P w) P w K mg base N__law_take "_law_take" (defScope s__law_take) f cdv A outer s0 H E).xe := passes_of rfl
  exact (sl_cons (ss_asg (se_bin o_add (se_ix o_ix (se_v 1) se_int) se_int) (sg_sub (se_v 1) se_int s_set))
    (sl_one (ss_ret (se_g h__law_draw hr rfl tk (sa_cons (se_v 0) (sa_cons (se_bin o_sub (se_ix o_ix (se_v 1) se_int) se_int) (sa_cons (se_v 2) sa_nil))) (nargs_cons (nargs_cons (nargs_cons nargs_nil)))))))
abbrev s__law_caught : Stmt := top 17
abbrev N__law_caught : List Str := ["at", "wrong"]
theorem sc__law_caught : FnScope N__law_caught ["at"] (defScope s__law_caught) := ⟨rfl, rfl, rfl, by decide +kernel, rfl, by decide +kernel, by decide +kernel⟩
theorem k__law_caught {P : Program} {w : World} {K : PySem.W.Frag} {mg : Str → Option Value} {base : Heap} {k : Nat} {C_PullError : Addr} {C_BadValue : Addr} {C_BadText : Addr} {C_BadGrounds : Addr} {C_NoPort : Addr} {C_NoName : Addr} {C_NoDriver : Addr} {C_NotNow : Addr} {C_TooMany : Addr} (T : Top K w mg C_PullError C_BadValue C_BadText C_BadGrounds C_NoPort C_NoName C_NoDriver C_NotNow C_TooMany) (D : DefAt K mg "_law_caught" s__law_caught ["at"]) :
    GFn P w K mg base (k + 1) "_law_caught" ["at"] (runB 2 (b__law_caught C_PullError C_BadValue C_BadText C_BadGrounds C_NoPort C_NoName C_NoDriver C_NotNow C_TooMany)) := by
  refine g_def (N := N__law_caught) D sc__law_caught fun f cdv A outer s0 H E hr => ?_
  have nd := sc__law_caught.nd
  have tk : Takes (cxOf (L2.CX P w) P w K mg base N__law_caught "_law_caught" (defScope s__law_caught) f cdv A outer s0 H E) (fun cls d _ H => E cls d H) := takes_of rfl rfl rfl rfl
  have po : PassesOwn (model P w) (cxOf (L2.CX P w) P w K mg base N__law_caught "_law_caught" (defScope s__law_caught) f cdv A outer s0 H E).A (cxOf (L2.CX P w) P w K mg base N__law_caught "_law_caught" (defScope s__law_caught) f cdv A outer s0 H E).env (cxOf (L2.CX P w) P w K mg base N__law_caught "_law_caught" (defScope s__law_caught) f cdv A outer s0 H E).xe := passes_of rfl
  exact (sl_one (ss_tryIs (i := 1) T.xt T.gB T.hm rfl rfl nd rfl rfl rfl tk (fun W pn xe tk2 po2 => (sl_cons (ss_if (sb_cmp (o_eq hr.units) (se_v 0) se_int (nomark _)) (sl_one (ss_rz T.z_TooMany T.r_TooMany tk2 rfl)) sl_nil)
    (sl_one (ss_raiseX T.k_NoName T.r_NoName hr tk2 (sa_cons (se_v 0) sa_nil) rfl)))) (fun _ _ => pv 1) (fun _ _ => pe_glob rfl T.k_NoName.gC rfl) (fun _ _ => rfl) T.n_isinstance))
abbrev s__law_so : Stmt := top 11
abbrev N__law_so : List Str := ["found", "meant", "k"]
theorem sc__law_so : FnScope N__law_so ["found", "meant"] (defScope s__law_so) := ⟨rfl, rfl, rfl, by decide +kernel, rfl, by decide +kernel, by decide +kernel⟩
theorem k__law_so {P : Program} {w : World} {K : PySem.W.Frag} {mg : Str → Option Value} {base : Heap} {k : Nat} {C_PullError : Addr} {C_BadValue : Addr} {C_BadText : Addr} {C_BadGrounds : Addr} {C_NoPort : Addr} {C_NoName : Addr} {C_NoDriver : Addr} {C_NotNow : Addr} {C_TooMany : Addr} {f__law_so : Fn} (T : Top K w mg C_PullError C_BadValue C_BadText C_BadGrounds C_NoPort C_NoName C_NoDriver C_NotNow C_TooMany) (D : DefAt K mg "_law_so" s__law_so ["found", "meant"]) (h__law_so : GFn P w K mg base k "_law_so" ["found", "meant"] f__law_so) :
    GFn P w K mg base (k + 1) "_law_so" ["found", "meant"] (runB 3 (b__law_so f__law_so)) := by
  refine g_def (N := N__law_so) D sc__law_so fun f cdv A outer s0 H E hr => ?_
  have nd := sc__law_so.nd
  have tk : Takes (cxOf (L2.CX P w) P w K mg base N__law_so "_law_so" (defScope s__law_so) f cdv A outer s0 H E) (fun cls d _ H => E cls d H) := takes_of rfl rfl rfl rfl
  have po : PassesOwn (model P w) (cxOf (L2.CX P w) P w K mg base N__law_so "_law_so" (defScope s__law_so) f cdv A outer s0 H E).A (cxOf (L2.CX P w) P w K mg base N__law_so "_law_so" (defScope s__law_so) f cdv A outer s0 H E).env (cxOf (L2.CX P w) P w K mg base N__law_so "_law_so" (defScope s__law_so) f cdv A outer s0 H E).xe := passes_of rfl
  exact (sl_cons (ss_if (sb_cmp o_is (se_v 1) se_non (nomark _)) (sl_one (ss_ret (se_cmp o_is (se_v 0) se_non (nomark _)))) sl_nil)
    (sl_cons (ss_if (sb_e (se_callB c_isi rfl T.n_isinstance (by decide +kernel) (sa_cons (se_v 1) (sa_cons (se_ty rfl T.n_tuple (by decide +kernel)) sa_nil)))) (sl_cons (ss_if (sb_w (sw_or (sb_not (sb_e (se_callB c_isi rfl T.n_isinstance (by decide +kernel) (sa_cons (se_v 0) (sa_cons (se_ty rfl T.n_tuple (by decide +kernel)) sa_nil))))) (sw_or1 (sb_cmp (o_ne hr.units) (se_callB c_len rfl T.n_len (by decide +kernel) (sa_cons (se_v 0) sa_nil)) (se_callB c_len rfl T.n_len (by decide +kernel) (sa_cons (se_v 1) sa_nil)) (nomark _))))) (sl_one (ss_ret se_bl)) sl_nil)
    (sl_cons (ss_for po rfl (si_range1 rfl T.n_range (sa_cons (se_callB c_len rfl T.n_len (by decide +kernel) (sa_cons (se_v 1) sa_nil)) sa_nil)) (sg_name (i := 2) nd rfl (by first | exact Or.inl rfl | exact Or.inr rfl)) (sl_one (ss_if (sb_not (sb_e (se_g h__law_so hr rfl tk (sa_cons (se_ix o_ix (se_v 0) (se_v 2)) (sa_cons (se_ix o_ix (se_v 1) (se_v 2)) sa_nil)) (nargs_cons (nargs_cons nargs_nil))))) (sl_one (ss_ret se_bl)) sl_nil)))
    (sl_one (ss_ret se_bl)))) sl_nil)
    (sl_cons (ss_if (sb_w (sw_or (sb_e (se_callB c_isi rfl T.n_isinstance (by decide +kernel) (sa_cons (se_v 1) (sa_cons (se_ty rfl T.n_bool (by decide +kernel)) sa_nil)))) (sw_or1 (sb_e (se_callB c_isi rfl T.n_isinstance (by decide +kernel) (sa_cons (se_v 0) (sa_cons (se_ty rfl T.n_bool (by decide +kernel)) sa_nil))))))) (sl_one (ss_ret (se_and (se_callB c_isi rfl T.n_isinstance (by decide +kernel) (sa_cons (se_v 1) (sa_cons (se_ty rfl T.n_bool (by decide +kernel)) sa_nil))) (se_and (se_callB c_isi rfl T.n_isinstance (by decide +kernel) (sa_cons (se_v 0) (sa_cons (se_ty rfl T.n_bool (by decide +kernel)) sa_nil))) (se_one (se_cmp (o_eq hr.units) (se_v 0) (se_v 1) (nomark _))))))) sl_nil)
    (sl_cons (ss_if (sb_e (se_callB c_isi rfl T.n_isinstance (by decide +kernel) (sa_cons (se_v 1) (sa_cons (se_ty rfl T.n_int (by decide +kernel)) sa_nil)))) (sl_one (ss_ret (se_and (se_callB c_isi rfl T.n_isinstance (by decide +kernel) (sa_cons (se_v 0) (sa_cons (se_ty rfl T.n_int (by decide +kernel)) sa_nil))) (se_one (se_cmp (o_eq hr.units) (se_v 0) (se_v 1) (nomark _)))))) sl_nil)
    (sl_one (ss_ret (se_and (se_callB c_isi rfl T.n_isinstance (by decide +kernel) (sa_cons (se_v 1) (sa_cons (se_ty rfl T.n_str (by decide +kernel)) sa_nil))) (se_and (se_callB c_isi rfl T.n_isinstance (by decide +kernel) (sa_cons (se_v 0) (sa_cons (se_ty rfl T.n_str (by decide +kernel)) sa_nil))) (se_one (se_cmp (o_eq hr.units) (se_v 0) (se_v 1) (nomark _)))))))))))
abbrev s__law_foreign : Stmt := top 16
abbrev N__law_foreign : List Str := ["value"]
theorem sc__law_foreign : FnScope N__law_foreign ["value"] (defScope s__law_foreign) := ⟨rfl, rfl, rfl, by decide +kernel, rfl, by decide +kernel, by decide +kernel⟩
theorem k__law_foreign {P : Program} {w : World} {K : PySem.W.Frag} {mg : Str → Option Value} {base : Heap} {k : Nat} {C_PullError : Addr} {C_BadValue : Addr} {C_BadText : Addr} {C_BadGrounds : Addr} {C_NoPort : Addr} {C_NoName : Addr} {C_NoDriver : Addr} {C_NotNow : Addr} {C_TooMany : Addr} (T : Top K w mg C_PullError C_BadValue C_BadText C_BadGrounds C_NoPort C_NoName C_NoDriver C_NotNow C_TooMany) (D : DefAt K mg "_law_foreign" s__law_foreign ["value"]) :
    GFn P w K mg base (k + 1) "_law_foreign" ["value"] (runB 1 (b__law_foreign C_PullError C_BadValue C_BadText C_BadGrounds C_NoPort C_NoName C_NoDriver C_NotNow C_TooMany)) := by
  refine g_def (N := N__law_foreign) D sc__law_foreign fun f cdv A outer s0 H E hr => ?_
  have nd := sc__law_foreign.nd
  have tk : Takes (cxOf (L2.CX P w) P w K mg base N__law_foreign "_law_foreign" (defScope s__law_foreign) f cdv A outer s0 H E) (fun cls d _ H => E cls d H) := takes_of rfl rfl rfl rfl
  have po : PassesOwn (model P w) (cxOf (L2.CX P w) P w K mg base N__law_foreign "_law_foreign" (defScope s__law_foreign) f cdv A outer s0 H E).A (cxOf (L2.CX P w) P w K mg base N__law_foreign "_law_foreign" (defScope s__law_foreign) f cdv A outer s0 H E).env (cxOf (L2.CX P w) P w K mg base N__law_foreign "_law_foreign" (defScope s__law_foreign) f cdv A outer s0 H E).xe := passes_of rfl
  exact (sl_cons (ss_if (sb_w (sw_or (sb_e (se_callB (c_isx T.xt) rfl T.n_isinstance (by decide +kernel) (sa_cons (se_v 0) (sa_cons (se_ty rfl T.n_ValueError (by decide +kernel)) sa_nil)))) (sw_or1 (sb_e (se_callB (c_isx T.xt) rfl T.n_isinstance (by decide +kernel) (sa_cons (se_v 0) (sa_cons (se_ty rfl T.n_LookupError (by decide +kernel)) sa_nil))))))) (sl_one (ss_ret se_bl)) sl_nil)
    (sl_one (ss_ret (se_or (se_callB (c_isx T.xt) rfl T.n_isinstance (by decide +kernel) (sa_cons (se_v 0) (sa_cons (se_ty rfl T.n_ArithmeticError (by decide +kernel)) sa_nil))) (se_one (se_not (se_callB (c_isx T.xt) rfl T.n_isinstance (by decide +kernel) (sa_cons (se_v 0) (sa_cons (se_ty rfl T.n_Exception (by decide +kernel)) sa_nil)))))))))
abbrev s__law_of : Stmt := top 15
abbrev N__law_of : List Str := ["value", "made"]
theorem sc__law_of : FnScope N__law_of ["value"] (defScope s__law_of) := ⟨rfl, rfl, rfl, by decide +kernel, rfl, by decide +kernel, by decide +kernel⟩
theorem k__law_of {P : Program} {w : World} {K : PySem.W.Frag} {mg : Str → Option Value} {base : Heap} {k : Nat} {C_PullError : Addr} {C_BadValue : Addr} {C_BadText : Addr} {C_BadGrounds : Addr} {C_NoPort : Addr} {C_NoName : Addr} {C_NoDriver : Addr} {C_NotNow : Addr} {C_TooMany : Addr} (T : Top K w mg C_PullError C_BadValue C_BadText C_BadGrounds C_NoPort C_NoName C_NoDriver C_NotNow C_TooMany) (D : DefAt K mg "_law_of" s__law_of ["value"]) :
    GFn P w K mg base (k + 1) "_law_of" ["value"] (runB 2 (b__law_of C_PullError C_BadValue C_BadText C_BadGrounds C_NoPort C_NoName C_NoDriver C_NotNow C_TooMany)) := by
  refine g_def (N := N__law_of) D sc__law_of fun f cdv A outer s0 H E hr => ?_
  have nd := sc__law_of.nd
  have tk : Takes (cxOf (L2.CX P w) P w K mg base N__law_of "_law_of" (defScope s__law_of) f cdv A outer s0 H E) (fun cls d _ H => E cls d H) := takes_of rfl rfl rfl rfl
  have po : PassesOwn (model P w) (cxOf (L2.CX P w) P w K mg base N__law_of "_law_of" (defScope s__law_of) f cdv A outer s0 H E).A (cxOf (L2.CX P w) P w K mg base N__law_of "_law_of" (defScope s__law_of) f cdv A outer s0 H E).env (cxOf (L2.CX P w) P w K mg base N__law_of "_law_of" (defScope s__law_of) f cdv A outer s0 H E).xe := passes_of rfl
  exact (sl_cons (ss_set (i := 1) nd rfl (by first | exact Or.inl rfl | exact Or.inr rfl) (se_lst (sa_cons (se_callB (c_isx T.xt) rfl T.n_isinstance (by decide +kernel) (sa_cons (se_v 0) (sa_cons (se_gv T.g_BadValue rfl) sa_nil))) (sa_cons (se_callB (c_isx T.xt) rfl T.n_isinstance (by decide +kernel) (sa_cons (se_v 0) (sa_cons (se_gv T.g_BadText rfl) sa_nil))) (sa_cons (se_callB (c_isx T.xt) rfl T.n_isinstance (by decide +kernel) (sa_cons (se_v 0) (sa_cons (se_gv T.g_BadGrounds rfl) sa_nil))) (sa_cons (se_callB (c_isx T.xt) rfl T.n_isinstance (by decide +kernel) (sa_cons (se_v 0) (sa_cons (se_gv T.g_NoPort rfl) sa_nil))) sa_nil))))))
    (sl_one (ss_ret (se_bin o_add (se_v 1) (se_lst (sa_cons (se_callB (c_isx T.xt) rfl T.n_isinstance (by decide +kernel) (sa_cons (se_v 0) (sa_cons (se_gv T.g_NoName rfl) sa_nil))) (sa_cons (se_callB (c_isx T.xt) rfl T.n_isinstance (by decide +kernel) (sa_cons (se_v 0) (sa_cons (se_gv T.g_NoDriver rfl) sa_nil))) (sa_cons (se_callB (c_isx T.xt) rfl T.n_isinstance (by decide +kernel) (sa_cons (se_v 0) (sa_cons (se_gv T.g_NotNow rfl) sa_nil))) (sa_cons (se_callB (c_isx T.xt) rfl T.n_isinstance (by decide +kernel) (sa_cons (se_v 0) (sa_cons (se_gv T.g_TooMany rfl) sa_nil))) sa_nil)))))))))
abbrev s_law : Stmt := top 18
abbrev N_law : List Str := ["script", "row", "spot", "at", "other", "made", "pair", "every", "k", "one"]
theorem sc_law : FnScope N_law ["script"] (defScope s_law) := ⟨rfl, rfl, rfl, by decide +kernel, rfl, by decide +kernel, by decide +kernel⟩
theorem k_law {P : Program} {w : World} {K : PySem.W.Frag} {mg : Str → Option Value} {base : Heap} {k : Nat} {C_PullError : Addr} {C_BadValue : Addr} {C_BadText : Addr} {C_BadGrounds : Addr} {C_NoPort : Addr} {C_NoName : Addr} {C_NoDriver : Addr} {C_NotNow : Addr} {C_TooMany : Addr} {f__law_numbers : Fn} {f__law_take : Fn} {f__law_so : Fn} {f__law_of : Fn} {f__law_foreign : Fn} {f__law_caught : Fn} (T : Top K w mg C_PullError C_BadValue C_BadText C_BadGrounds C_NoPort C_NoName C_NoDriver C_NotNow C_TooMany) (D : DefAt K mg "law" s_law ["script"]) (h__law_numbers : GFn P w K mg base k "_law_numbers" ["script"] f__law_numbers) (h__law_take : GFn P w K mg base k "_law_take" ["row", "spot", "limit"] f__law_take) (h__law_so : GFn P w K mg base k "_law_so" ["found", "meant"] f__law_so) (h__law_of : GFn P w K mg base k "_law_of" ["value"] f__law_of) (h__law_foreign : GFn P w K mg base k "_law_foreign" ["value"] f__law_foreign) (h__law_caught : GFn P w K mg base k "_law_caught" ["at"] f__law_caught) :
    GFn P w K mg base (k + 1) "law" ["script"] (runB 10 (b_law_k00 C_PullError C_BadValue C_BadText C_BadGrounds C_NoPort C_NoName C_NoDriver C_NotNow C_TooMany f__law_numbers f__law_take f__law_so f__law_of f__law_foreign f__law_caught)) := by
  refine g_def (N := N_law) D sc_law fun f cdv A outer s0 H E hr => ?_
  have nd := sc_law.nd
  have tk : Takes (cxOf (L2.CX P w) P w K mg base N_law "law" (defScope s_law) f cdv A outer s0 H E) (fun cls d _ H => E cls d H) := takes_of rfl rfl rfl rfl
  have po : PassesOwn (model P w) (cxOf (L2.CX P w) P w K mg base N_law "law" (defScope s_law) f cdv A outer s0 H E).A (cxOf (L2.CX P w) P w K mg base N_law "law" (defScope s_law) f cdv A outer s0 H E).env (cxOf (L2.CX P w) P w K mg base N_law "law" (defScope s_law) f cdv A outer s0 H E).xe := passes_of rfl
  exact (sl_cons (ss_set (i := 1) nd rfl (by first | exact Or.inl rfl | exact Or.inr rfl) (se_g h__law_numbers hr rfl tk (sa_cons (se_v 0) sa_nil) (nargs_cons nargs_nil)))
    (sl_cons (ss_set (i := 2) nd rfl (by first | exact Or.inl rfl | exact Or.inr rfl) (se_lst (sa_cons se_int sa_nil)))
    (sl_cons (ss_set (i := 3) nd rfl (by first | exact Or.inl rfl | exact Or.inr rfl) (se_bin o_sub (se_g h__law_take hr rfl tk (sa_cons (se_v 1) (sa_cons (se_v 2) (sa_cons se_int sa_nil))) (nargs_cons (nargs_cons (nargs_cons nargs_nil)))) se_int))
    (sl_cons (ss_set (i := 4) nd rfl (by first | exact Or.inl rfl | exact Or.inr rfl) (se_ix o_ix (se_lst (sa_cons se_non (sa_cons (se_un o_neg (se_v 3)) (sa_cons se_str (sa_cons (se_tup (sa_cons (se_v 3) (sa_cons se_int sa_nil))) (sa_cons se_bl sa_nil)))))) (se_g h__law_take hr rfl tk (sa_cons (se_v 1) (sa_cons (se_v 2) (sa_cons se_int sa_nil))) (nargs_cons (nargs_cons (nargs_cons nargs_nil))))))
    (sl_cons (ss_for po rfl (si_seq (se_lst (sa_cons (se_mkx T.k_BadValue hr (sa_cons (se_v 3) sa_nil) rfl) (sa_cons (se_mkx T.k_BadText hr (sa_cons (se_v 3) sa_nil) rfl) (sa_cons (se_mkx T.k_BadGrounds hr (sa_cons (se_v 3) sa_nil) rfl) (sa_cons (se_mkxK T.k_BadValue hr (sk_cons (se_v 3) sk_nil) rfl) (sa_cons (se_mkxK T.k_BadText hr (sk_cons (se_v 3) sk_nil) rfl) (sa_cons (se_mkxK T.k_BadGrounds hr (sk_cons (se_v 3) sk_nil) rfl) sa_nil)))))))) (sg_name (i := 5) nd rfl (by first | exact Or.inl rfl | exact Or.inr rfl)) (sl_one (ss_if (sb_not (sb_e (se_g h__law_so hr rfl tk (sa_cons (se_attrX T.xa_at (se_v 5)) (sa_cons (se_v 3) sa_nil)) (nargs_cons (nargs_cons nargs_nil))))) (sl_one (ss_ret se_bl)) sl_nil)))
    (sl_cons (ss_for po rfl (si_seq (se_lst (sa_cons (se_tup (sa_cons (se_attrX T.xa_path (se_mkx T.k_NoPort hr (sa_cons (se_v 4) sa_nil) rfl)) (sa_cons (se_attrX T.xa_path (se_mkxK T.k_NoPort hr (sk_cons (se_v 4) sk_nil) rfl)) sa_nil))) (sa_cons (se_tup (sa_cons (se_attrX T.xa_name (se_mkx T.k_NoName hr (sa_cons (se_v 4) sa_nil) rfl)) (sa_cons (se_attrX T.xa_name (se_mkxK T.k_NoName hr (sk_cons (se_v 4) sk_nil) rfl)) sa_nil))) sa_nil)))) (sg_name (i := 6) nd rfl (by first | exact Or.inl rfl | exact Or.inr rfl)) (sl_one (ss_if (sb_not (sb_e (se_g h__law_so hr rfl tk (sa_cons (se_v 6) (sa_cons (se_tup (sa_cons (se_v 4) (sa_cons (se_v 4) sa_nil))) sa_nil)) (nargs_cons (nargs_cons nargs_nil))))) (sl_one (ss_ret se_bl)) sl_nil)))
    (sl_cons (ss_for po rfl (si_seq (se_lst (sa_cons (se_tup (sa_cons (se_attrX T.xa_word (se_mkx T.k_NoDriver hr (sa_cons (se_v 4) sa_nil) rfl)) (sa_cons (se_attrX T.xa_word (se_mkxK T.k_NoDriver hr (sk_cons (se_v 4) sk_nil) rfl)) sa_nil))) (sa_cons (se_tup (sa_cons (se_attrX T.xa_event (se_mkx T.k_NotNow hr (sa_cons (se_v 4) sa_nil) rfl)) (sa_cons (se_attrX T.xa_event (se_mkxK T.k_NotNow hr (sk_cons (se_v 4) sk_nil) rfl)) sa_nil))) sa_nil)))) (sg_name (i := 6) nd rfl (by first | exact Or.inl rfl | exact Or.inr rfl)) (sl_one (ss_if (sb_not (sb_e (se_g h__law_so hr rfl tk (sa_cons (se_v 6) (sa_cons (se_tup (sa_cons (se_v 4) (sa_cons (se_v 4) sa_nil))) sa_nil)) (nargs_cons (nargs_cons nargs_nil))))) (sl_one (ss_ret se_bl)) sl_nil)))
    (sl_cons (ss_set (i := 7) nd rfl (by first | exact Or.inl rfl | exact Or.inr rfl) (se_lst (sa_cons (se_mkx T.k_BadValue hr (sa_cons (se_v 3) sa_nil) rfl) (sa_cons (se_mkx T.k_BadText hr (sa_cons (se_v 3) sa_nil) rfl) (sa_cons (se_mkx T.k_BadGrounds hr (sa_cons (se_v 3) sa_nil) rfl) (sa_cons (se_mkx T.k_NoPort hr (sa_cons (se_v 4) sa_nil) rfl) (sa_cons (se_mkx T.k_NoName hr (sa_cons (se_v 4) sa_nil) rfl) (sa_cons (se_mkx T.k_NoDriver hr (sa_cons (se_v 4) sa_nil) rfl) (sa_cons (se_mkx T.k_NotNow hr (sa_cons (se_v 4) sa_nil) rfl) (sa_cons (se_mk0 T.z_TooMany rfl) sa_nil))))))))))
    (sl_cons (ss_for po rfl (si_range1 rfl T.n_range (sa_cons se_int sa_nil)) (sg_name (i := 8) nd rfl (by first | exact Or.inl rfl | exact Or.inr rfl)) (sl_one (ss_if (sb_w (sw_or (sb_cmp (o_ne hr.units) (se_g h__law_of hr rfl tk (sa_cons (se_ix o_ix (se_v 7) (se_v 8)) sa_nil) (nargs_cons nargs_nil)) (se_lc (own := [("one", 9)]) rfl nd (si_range1 rfl T.n_range (sa_cons se_int sa_nil)) (blkOk_by (own := [("one", 9)]) (N := N_law) (sc := defScope s_law) (by decide +kernel)) (fun _ _ _ _ _ => (so_name (i := 9) nd rfl (by first | exact Or.inl rfl | exact Or.inr rfl) (by decide))) (fun _ _ _ _ _ => sts_nil) (fun _ _ _ _ _ => (se_cmp (o_eq hr.units) (se_v 9) (se_v 8) (nomark _)))) (nomark _)) (sw_or (sb_e (se_g h__law_foreign hr rfl tk (sa_cons (se_ix o_ix (se_v 7) (se_v 8)) sa_nil) (nargs_cons nargs_nil))) (sw_or1 (sb_not (sb_e (se_callB (c_isx T.xt) rfl T.n_isinstance (by decide +kernel) (sa_cons (se_ix o_ix (se_v 7) (se_v 8)) (sa_cons (se_gv T.g_PullError rfl) sa_nil))))))))) (sl_one (ss_ret se_bl)) sl_nil)))
    (sl_one (ss_ret (se_and (se_not (se_g h__law_caught hr rfl tk (sa_cons se_int sa_nil) (nargs_cons nargs_nil))) (se_one (se_g h__law_caught hr rfl tk (sa_cons (se_bin o_add se_int (se_g h__law_take hr rfl tk (sa_cons (se_v 1) (sa_cons (se_v 2) (sa_cons se_int sa_nil))) (nargs_cons (nargs_cons (nargs_cons nargs_nil))))) sa_nil) (nargs_cons nargs_nil)))))))))))))))
end Sh
set_option linter.all false
set_option maxRecDepth 100000
set_option maxHeartbeats 4000000
namespace Sh
open PySem PySem.Spec PyProof.Rows L2
/-- a value as a tree: lists and dicts, too; spt is the place of the draws -/
inductive D where
  | non | bl (b : Bool) | int (i : Int) | str (x : Str) | tup (xs : List D) | lst (xs : List D) | ty (n : String) | ob (a : Addr) | ex0 (C : Addr) | ex1 (C : Addr) (f : Str) (d : D) | spt
  | dK (kvs : List (Key × D)) | dT (kvs : List (List Key × D)) | dL (kls : List (List Key × List D)) | fT (kvs : List (List Key × D))
abbrev Fz := Nat → Prop
section
variable (s : Nat) (F : Fz) (mem : Mem)
mutual
inductive Vw : W → D → Prop
  | non : Vw .non .non
  | bl (b : Bool) : Vw (.bl b) (.bl b)
  | int (i : Int) : Vw (.int i) (.int i)
  | str (x : Str) : Vw (.str x) (.str x)
  | ty (n : String) : Vw (.ty n) (.ty n)
  | ob (a : Addr) : Vw (.ob a) (.ob a)
  | ex0 (C : Addr) : Vw (.ex0 C) (.ex0 C)
  | ex1 {C : Addr} {f : Str} {w : W} {d : D} : Vw w d → Vw (.ex1 C f w) (.ex1 C f d)
  | tup {ws : List W} {ds : List D} : Vws ws ds → Vw (.tup ws) (.tup ds)
  | loc {n : Nat} {c : Cell} {d : D} : F n → mem[n]? = some c → Cv c d → Vw (.loc n) d
  | locF {n : Nat} {kvs : List (List Key × W)} {kds : List (List Key × D)} : F n → mem[n]? = some (.fT kvs) → Vkt kvs kds → Vw (.loc n) (.dT kds)
  | locT {n : Nat} {kvs : List (List Key × W)} {kds : List (List Key × D)} : F n → mem[n]? = some (.fT kvs) → Vkt kvs kds → Vw (.loc n) (.fT kds)
  | spt : Vw (.loc s) .spt
inductive Vws : List W → List D → Prop
  | nil : Vws [] []
  | cons {w : W} {d : D} {ws : List W} {ds : List D} : Vw w d → Vws ws ds → Vws (w :: ws) (d :: ds)
inductive Cv : Cell → D → Prop
  | lst {ws : List W} {ds : List D} : Vws ws ds → Cv (.lst ws) (.lst ds)
  | dK {kvs : List (Key × W)} {kds : List (Key × D)} : Vkk kvs kds → Cv (.dK kvs) (.dK kds)
  | dT {kvs : List (List Key × W)} {kds : List (List Key × D)} : Vkt kvs kds → Cv (.dT kvs) (.dT kds)
  | dL {kls : List (List Key × Nat × List W)} {kds : List (List Key × List D)} : Vkl kls kds → Cv (.dL kls) (.dL kds)
inductive Vkk : List (Key × W) → List (Key × D) → Prop
  | nil : Vkk [] []
  | cons {k : Key} {w : W} {d : D} {ws : List (Key × W)} {ds : List (Key × D)} : Vw w d → Vkk ws ds → Vkk ((k, w) :: ws) ((k, d) :: ds)
inductive Vkt : List (List Key × W) → List (List Key × D) → Prop
  | nil : Vkt [] []
  | cons {k : List Key} {w : W} {d : D} {ws : List (List Key × W)} {ds : List (List Key × D)} : Vw w d → Vkt ws ds → Vkt ((k, w) :: ws) ((k, d) :: ds)
inductive Vkl : List (List Key × Nat × List W) → List (List Key × List D) → Prop
  | nil : Vkl [] []
  | cons {k : List Key} {n : Nat} {w : List W} {d : List D} {ws : List (List Key × Nat × List W)} {ds : List (List Key × List D)} : Vws w d → Vkl ws ds → Vkl ((k, n, w) :: ws) ((k, d) :: ds)
end
end
/-- frozen things stay -/
structure Fr (F : Fz) (mem : Mem) (F' : Fz) (mem' : Mem) : Prop where
  sub : ∀ i, F i → F' i
  keep : ∀ i, F i → mem'[i]? = mem[i]?
theorem Fr.refl {F : Fz} {mem : Mem} : Fr F mem F mem := ⟨fun _ h => h, fun _ _ => rfl⟩
theorem Fr.trans {F F1 F2 : Fz} {m m1 m2 : Mem} (a : Fr F m F1 m1) (b : Fr F1 m1 F2 m2) : Fr F m F2 m2 :=
  ⟨fun i h => b.sub i (a.sub i h), fun i h => (b.keep i (a.sub i h)).trans (a.keep i h)⟩
section
variable {s : Nat} {F F' : Fz} {mem mem' : Mem}
mutual
theorem Vw.mono (f : Fr F mem F' mem') : ∀ {w : W} {d : D}, Vw s F mem w d → Vw s F' mem' w d
  | _, _, .non => .non
  | _, _, .bl b => .bl b
  | _, _, .int i => .int i
  | _, _, .str x => .str x
  | _, _, .ty n => .ty n
  | _, _, .ob a => .ob a
  | _, _, .ex0 C => .ex0 C
  | _, _, .ex1 h => .ex1 (Vw.mono f h)
  | _, _, .tup h => .tup (Vws.mono f h)
  | _, _, .loc h e c => .loc (f.sub _ h) ((f.keep _ h).trans e) (Cv.mono f c)
  | _, _, .locF h e c => .locF (f.sub _ h) ((f.keep _ h).trans e) (Vkt.mono f c)
  | _, _, .locT h e c => .locT (f.sub _ h) ((f.keep _ h).trans e) (Vkt.mono f c)
  | _, _, .spt => .spt
theorem Vws.mono (f : Fr F mem F' mem') : ∀ {w : List W} {d : List D}, Vws s F mem w d → Vws s F' mem' w d
  | _, _, .nil => .nil
  | _, _, .cons h t => .cons (Vw.mono f h) (Vws.mono f t)
theorem Cv.mono (f : Fr F mem F' mem') : ∀ {w : Cell} {d : D}, Cv s F mem w d → Cv s F' mem' w d
  | _, _, .lst h => .lst (Vws.mono f h)
  | _, _, .dK h => .dK (Vkk.mono f h)
  | _, _, .dT h => .dT (Vkt.mono f h)
  | _, _, .dL h => .dL (Vkl.mono f h)
theorem Vkk.mono (f : Fr F mem F' mem') : ∀ {w : List (Key × W)} {d : List (Key × D)}, Vkk s F mem w d → Vkk s F' mem' w d
  | _, _, .nil => .nil
  | _, _, .cons h t => .cons (Vw.mono f h) (Vkk.mono f t)
theorem Vkt.mono (f : Fr F mem F' mem') : ∀ {w : List (List Key × W)} {d : List (List Key × D)}, Vkt s F mem w d → Vkt s F' mem' w d
  | _, _, .nil => .nil
  | _, _, .cons h t => .cons (Vw.mono f h) (Vkt.mono f t)
theorem Vkl.mono (f : Fr F mem F' mem') : ∀ {w : List (List Key × Nat × List W)} {d : List (List Key × List D)}, Vkl s F mem w d → Vkl s F' mem' w d
  | _, _, .nil => .nil
  | _, _, .cons h t => .cons (Vws.mono f h) (Vkl.mono f t)
end
theorem Vws.length : ∀ {ws : List W} {ds : List D}, Vws s F mem ws ds → ws.length = ds.length
  | _, _, .nil => rfl
  | _, _, .cons _ t => congrArg Nat.succ (Vws.length t)
theorem Vws.get : ∀ {ws : List W} {ds : List D} {i : Nat} {d : D}, Vws s F mem ws ds → ds[i]? = some d → ∃ w, ws[i]? = some w ∧ Vw s F mem w d
  | _, _, 0, _, .cons r _, e => ⟨_, rfl, by cases e; exact r⟩
  | _, _, i + 1, _, .cons _ t, e => Vws.get (i := i) t e
theorem Vws.append : ∀ {ws ws' : List W} {ds ds' : List D}, Vws s F mem ws ds → Vws s F mem ws' ds' → Vws s F mem (ws ++ ws') (ds ++ ds')
  | _, _, _, _, .nil, h => h
  | _, _, _, _, .cons r t, h => .cons r (Vws.append t h)
theorem Vws.drop : ∀ {ws : List W} {ds : List D} (n : Nat), Vws s F mem ws ds → Vws s F mem (ws.drop n) (ds.drop n)
  | _, _, 0, r => r
  | _, _, _ + 1, .nil => .nil
  | _, _, n + 1, .cons _ t => Vws.drop n t
theorem Vws.take : ∀ {ws : List W} {ds : List D} (n : Nat), Vws s F mem ws ds → Vws s F mem (ws.take n) (ds.take n)
  | _, _, 0, _ => .nil
  | _, _, _ + 1, .nil => .nil
  | _, _, n + 1, .cons r t => .cons r (Vws.take n t)
theorem Vws.set {w : W} {d : D} (q : Vw s F mem w d) : ∀ {ws : List W} {ds : List D} (n : Nat), Vws s F mem ws ds → Vws s F mem (ws.set n w) (ds.set n d)
  | _, _, _, .nil => .nil
  | _, _, 0, .cons _ t => .cons q t
  | _, _, n + 1, .cons r t => .cons r (Vws.set q n t)
theorem Vws.ints : ∀ (is : List Int), Vws s F mem (is.map W.int) (is.map D.int)
  | [] => .nil
  | i :: is => .cons (.int i) (Vws.ints is)
end
/-- the world of a law behind its start: the place of the draws at s, n draws were made -/
structure Wd (s : Nat) (F : Fz) (mem : Mem) (n : Nat) : Prop where
  spot : mem[s]? = some (.lst [.int (n : Int)])
  nf : ¬ F s
  lt : ∀ i, F i → i < mem.length
theorem Wd.s_lt {s : Nat} {F : Fz} {mem : Mem} {n : Nat} (h : Wd s F mem n) : s < mem.length := (List.getElem?_eq_some_iff.mp h.spot).1
/-- a step: what is below b stays, but s -/
structure Sp (s b : Nat) (F : Fz) (mem : Mem) (F' : Fz) (mem' : Mem) : Prop where
  fr : Fr F mem F' mem'
  low : ∀ i, i < b → F' i → F i
  old : ∀ i, i < b → i ≠ s → mem'[i]? = mem[i]?
  len : mem.length ≤ mem'.length
theorem Sp.refl {s b : Nat} {F : Fz} {mem : Mem} : Sp s b F mem F mem := ⟨Fr.refl, fun _ _ h => h, fun _ _ _ => rfl, Nat.le_refl _⟩
theorem Sp.trans {s b b' : Nat} {F F1 F2 : Fz} {m m1 m2 : Mem} (a : Sp s b F m F1 m1) (c : Sp s b' F1 m1 F2 m2) (l : b ≤ b') : Sp s b F m F2 m2 :=
  ⟨a.fr.trans c.fr, fun i h q => a.low i h (c.low i (Nat.lt_of_lt_of_le h l) q), fun i h n => (c.old i (Nat.lt_of_lt_of_le h l) n).trans (a.old i h n), Nat.le_trans a.len c.len⟩
theorem Sp.le {s b b' : Nat} {F F1 : Fz} {m m1 : Mem} (a : Sp s b F m F1 m1) (l : b' ≤ b) : Sp s b' F m F1 m1 :=
  ⟨a.fr, fun i h => a.low i (Nat.lt_of_lt_of_le h l), fun i h => a.old i (Nat.lt_of_lt_of_le h l), a.len⟩
/-- new cells behind all that is there -/
theorem Sp.app {s b : Nat} {F : Fz} {mem r : Mem} (lt : ∀ i, F i → i < mem.length) (hb : b ≤ mem.length) : Sp s b F mem F (mem ++ r) :=
  ⟨⟨fun _ h => h, fun i h => List.getElem?_append_left (lt i h)⟩, fun _ _ h => h, fun i h _ => List.getElem?_append_left (Nat.lt_of_lt_of_le h hb), by rw [List.length_append]; omega⟩
theorem Wd.app {s : Nat} {F : Fz} {mem r : Mem} {n : Nat} (h : Wd s F mem n) : Wd s F (mem ++ r) n :=
  ⟨by rw [List.getElem?_append_left h.s_lt]; exact h.spot, h.nf, fun i q => by rw [List.length_append]; have := h.lt i q; omega⟩
/-- freeze a place -/
def Fz.add (F : Fz) (p : Nat) : Fz := fun i => F i ∨ i = p
theorem Fr.add {F : Fz} {mem : Mem} {p : Nat} : Fr F mem (F.add p) mem := ⟨fun _ h => .inl h, fun _ _ => rfl⟩
theorem Sp.add {s b : Nat} {F : Fz} {mem : Mem} {p : Nat} (h : b ≤ p) : Sp s b F mem (F.add p) mem :=
  ⟨Fr.add, fun i l q => q.elim id fun e => by omega, fun _ _ _ => rfl, Nat.le_refl _⟩
theorem Wd.add {s : Nat} {F : Fz} {mem : Mem} {n p : Nat} (h : Wd s F mem n) (hp : p ≠ s) (l : p < mem.length) : Wd s (F.add p) mem n :=
  ⟨h.spot, fun q => q.elim h.nf fun e => hp e.symm, fun i q => q.elim (h.lt i) fun e => e ▸ l⟩
inductive Sl where
  | no | C (d : D) | O (d : D)
abbrev PEnv := List Sl
structure EnvR (s b : Nat) (F : Fz) (mem : Mem) (env : VEnv) (pe : PEnv) : Prop where
  len : env.length = pe.length
  cl : ∀ (i : Nat) (d : D), pe[i]? = some (.C d) → ∃ w, env[i]? = some (some w) ∧ Vw s F mem w d
  op : ∀ (i : Nat) (d : D), pe[i]? = some (.O d) → ∃ n c, env[i]? = some (some (.loc n)) ∧ b ≤ n ∧ n ≠ s ∧ ¬ F n ∧ mem[n]? = some c ∧ Cv s F mem c d
  dis : ∀ (i j : Nat) (d e : D) (n : Nat), i ≠ j → pe[i]? = some (.O d) → pe[j]? = some (.O e) → env[i]? = some (some (.loc n)) → env[j]? ≠ some (some (.loc n))
section
variable {s b b' : Nat} {F F' : Fz} {mem mem' : Mem} {env : VEnv} {pe : PEnv}
/-- a step that leaves all that is there -/
theorem EnvR.step (r : EnvR s b F mem env pe) (p : Sp s mem.length F mem F' mem') : EnvR s b F' mem' env pe where
  len := r.len
  cl := fun i d h => let ⟨w, h1, h2⟩ := r.cl i d h; ⟨w, h1, h2.mono p.fr⟩
  op := fun i d h => by
    obtain ⟨n, c, h1, h2, h3, h4, h5, h6⟩ := r.op i d h
    have hl := (List.getElem?_eq_some_iff.mp h5).1
    exact ⟨n, c, h1, h2, h3, fun q => h4 (p.low n hl q), by rw [p.old n hl h3]; exact h5, h6.mono p.fr⟩
  dis := r.dis
theorem EnvR.setC (r : EnvR s b F mem env pe) {w : W} {d : D} (v : Vw s F mem w d) (i : Nat) : EnvR s b F mem (env.set i (some w)) (pe.set i (.C d)) where
  len := by rw [List.length_set, List.length_set]; exact r.len
  cl := fun j e h => by
    by_cases hij : i = j
    · subst hij
      by_cases hl : i < pe.length
      · rw [List.getElem?_set_self hl] at h
        cases h
        exact ⟨w, by rw [List.getElem?_set_self (by rw [r.len]; exact hl)], v⟩
      · rw [List.getElem?_eq_none (by rw [List.length_set]; omega)] at h
        cases h
    · rw [List.getElem?_set_ne hij] at h ⊢
      exact r.cl j e h
  op := fun j e h => by
    by_cases hij : i = j
    · subst hij
      by_cases hl : i < pe.length
      · rw [List.getElem?_set_self hl] at h; cases h
      · rw [List.getElem?_eq_none (by rw [List.length_set]; omega)] at h; cases h
    · rw [List.getElem?_set_ne hij] at h ⊢
      exact r.op j e h
  dis := fun j k d e n hjk hj hk => by
    by_cases hij : i = j
    · subst hij
      by_cases hl : i < pe.length
      · rw [List.getElem?_set_self hl] at hj; cases hj
      · rw [List.getElem?_eq_none (by rw [List.length_set]; omega)] at hj; cases hj
    · by_cases hik : i = k
      · subst hik
        by_cases hl : i < pe.length
        · rw [List.getElem?_set_self hl] at hk; cases hk
        · rw [List.getElem?_eq_none (by rw [List.length_set]; omega)] at hk; cases hk
      · rw [List.getElem?_set_ne hij] at hj ⊢
        rw [List.getElem?_set_ne hik] at hk ⊢
        exact r.dis j k d e n hjk hj hk
theorem EnvR.unset (r : EnvR s b F mem env pe) (i : Nat) : EnvR s b F mem (env.set i none) (pe.set i .no) where
  len := by rw [List.length_set, List.length_set]; exact r.len
  cl := fun j e h => by
    by_cases hij : i = j
    · subst hij
      by_cases hl : i < pe.length
      · rw [List.getElem?_set_self hl] at h; cases h
      · rw [List.getElem?_eq_none (by rw [List.length_set]; omega)] at h; cases h
    · rw [List.getElem?_set_ne hij] at h ⊢
      exact r.cl j e h
  op := fun j e h => by
    by_cases hij : i = j
    · subst hij
      by_cases hl : i < pe.length
      · rw [List.getElem?_set_self hl] at h; cases h
      · rw [List.getElem?_eq_none (by rw [List.length_set]; omega)] at h; cases h
    · rw [List.getElem?_set_ne hij] at h ⊢
      exact r.op j e h
  dis := fun j k d e n hjk hj hk => by
    by_cases hij : i = j
    · subst hij
      by_cases hl : i < pe.length
      · rw [List.getElem?_set_self hl] at hj; cases hj
      · rw [List.getElem?_eq_none (by rw [List.length_set]; omega)] at hj; cases hj
    · by_cases hik : i = k
      · subst hik
        by_cases hl : i < pe.length
        · rw [List.getElem?_set_self hl] at hk; cases hk
        · rw [List.getElem?_eq_none (by rw [List.length_set]; omega)] at hk; cases hk
      · rw [List.getElem?_set_ne hij] at hj ⊢
        rw [List.getElem?_set_ne hik] at hk ⊢
        exact r.dis j k d e n hjk hj hk
/-- write the slot's own place -/
theorem EnvR.write (r : EnvR s b F mem env pe) (lt : ∀ i, F i → i < mem.length) {i n : Nat} {d d' : D} {c' : Cell} (hi : pe[i]? = some (.O d)) (he : env[i]? = some (some (.loc n))) (hc : Cv s F mem c' d') :
    EnvR s b F (mem.set n c') env (pe.set i (.O d')) ∧ Fr F mem F (mem.set n c') := by
  have hl : i < pe.length := (List.getElem?_eq_some_iff.mp hi).1
  obtain ⟨n', c, h1, h2, h3, h4, h5, h6⟩ := r.op i d hi
  rw [he] at h1
  cases h1
  have hm : n < mem.length := (List.getElem?_eq_some_iff.mp h5).1
  have f : Fr F mem F (mem.set n c') := ⟨fun _ h => h, fun j h => List.getElem?_set_ne (by rintro rfl; exact h4 h)⟩
  refine ⟨⟨by rw [List.length_set]; exact r.len, fun j e h => ?_, fun j e h => ?_, fun j k d2 e m hjk hj hk => ?_⟩, f⟩
  · by_cases hij : i = j
    · subst hij; rw [List.getElem?_set_self hl] at h; cases h
    · rw [List.getElem?_set_ne hij] at h
      obtain ⟨w, e1, e2⟩ := r.cl j e h
      exact ⟨w, e1, e2.mono f⟩
  · by_cases hij : i = j
    · subst hij
      rw [List.getElem?_set_self hl] at h
      cases h
      exact ⟨n, c', he, h2, h3, h4, List.getElem?_set_self hm, hc.mono f⟩
    · rw [List.getElem?_set_ne hij] at h
      obtain ⟨m, c2, g1, g2, g3, g4, g5, g6⟩ := r.op j e h
      refine ⟨m, c2, g1, g2, g3, g4, ?_, g6.mono f⟩
      rw [List.getElem?_set_ne (fun z => ?_)]
      · exact g5
      · subst z; exact r.dis i j d e n hij hi h he g1
  · have go : ∀ (j : Nat) (d2 : D), (pe.set i (.O d'))[j]? = some (.O d2) → ∃ d3, pe[j]? = some (.O d3) := fun j d2 hj => by
      by_cases hij : i = j
      · subst hij; exact ⟨d, hi⟩
      · rw [List.getElem?_set_ne hij] at hj; exact ⟨d2, hj⟩
    obtain ⟨_, hj'⟩ := go j d2 hj
    obtain ⟨_, hk'⟩ := go k e hk
    exact r.dis j k _ _ m hjk hj' hk'
end
end Sh
set_option linter.all false
set_option maxRecDepth 100000
set_option maxHeartbeats 4000000
namespace Sh
open PySem PySem.Spec PyProof.Rows L2
structure PX where
  cls : Addr
  fs : Option (List (Str × D))
inductive PR (α : Type) where
  | ok (a : α) (n : Nat) | ex (x : PX) (n : Nat) | bad
abbrev PM (α : Type) := Nat → PR α
def PM.pure {α : Type} (a : α) : PM α := fun n => .ok a n
def PM.bind {α β : Type} (x : PM α) (f : α → PM β) : PM β := fun n => match x n with
  | .ok a k => f a k
  | .ex x k => .ex x k
  | .bad => .bad
def pl {α : Type} (o : Option α) : PM α := fun n => match o with | some a => .ok a n | none => .bad
abbrev PE := PEnv → PM D
abbrev PB := PEnv → PM Bool
abbrev PA := PEnv → PM (List D)
abbrev PFn := List D → PM D
def Vx (s : Nat) (F : Fz) (mem : Mem) (x : Exc) (p : PX) : Prop := x.cls = p.cls ∧ match x.fs, p.fs with
  | none, none => True
  | some ws, some ds => ws.map (·.1) = ds.map (·.1) ∧ Vws s F mem (ws.map (·.2)) (ds.map (·.2))
  | _, _ => False
theorem Vx.mono {s : Nat} {F F' : Fz} {mem mem' : Mem} {x : Exc} {p : PX} (f : Fr F mem F' mem') (h : Vx s F mem x p) : Vx s F' mem' x p := by
  obtain ⟨c, fs⟩ := x
  obtain ⟨c', fs'⟩ := p
  obtain ⟨h1, h2⟩ := h
  refine ⟨h1, ?_⟩
  cases fs with
  | none => cases fs' with
    | none => trivial
    | some _ => exact h2
  | some ws => cases fs' with
    | none => exact h2
    | some ds => exact ⟨h2.1, h2.2.mono f⟩
/-- the value, or a place that may still change, with its value -/
def VwO (s : Nat) (F : Fz) (mem : Mem) (w : W) (d : D) : Prop := Vw s F mem w d ∨ ∃ n c, w = .loc n ∧ n ≠ s ∧ mem[n]? = some c ∧ Cv s F mem c d
/-- a new place -/
def VwF (s b : Nat) (F : Fz) (mem : Mem) (w : W) (d : D) : Prop := ∃ n c, w = .loc n ∧ b ≤ n ∧ n ≠ s ∧ ¬ F n ∧ mem[n]? = some c ∧ Cv s F mem c d
def VwOs (s : Nat) (F : Fz) (mem : Mem) : List W → List D → Prop := Paired (VwO s F mem)
def RelR {α β : Type} (s b : Nat) (F : Fz) (mem : Mem) (V : Fz → Mem → α → β → Prop) (r : Res α) (p : PR β) : Prop := match p with
  | .ok d n' => ∃ w mem' F', r = .ok w mem' ∧ Sp s b F mem F' mem' ∧ Wd s F' mem' n' ∧ V F' mem' w d
  | .ex x n' => ∃ y mem' F', r = .exc y mem' ∧ Sp s b F mem F' mem' ∧ Wd s F' mem' n' ∧ Vx s F' mem' y x
  | .bad => True
section
variable {s b : Nat} {F F' : Fz} {mem mem' : Mem} {n : Nat}
theorem VwO.step {w : W} {d : D} (p : Sp s mem.length F mem F' mem') (h : VwO s F mem w d) : VwO s F' mem' w d := by
  rcases h with h | ⟨k, c, h1, h2, h3, h4⟩
  · exact .inl (h.mono p.fr)
  · exact .inr ⟨k, c, h1, h2, by rw [p.old k (List.getElem?_eq_some_iff.mp h3).1 h2]; exact h3, h4.mono p.fr⟩
theorem VwOs.step {w : List W} {d : List D} (p : Sp s mem.length F mem F' mem') (h : VwOs s F mem w d) : VwOs s F' mem' w d := Paired.imp2 (fun _ _ r => r.step p) h
theorem VwF.o {w : W} {d : D} (h : VwF s b F mem w d) : VwO s F mem w d := let ⟨k, c, h1, _, h3, _, h5, h6⟩ := h; .inr ⟨k, c, h1, h3, h5, h6⟩
theorem RelR.bind {α β γ δ : Type} {x : SM α} {f : α → SM β} {px : PM γ} {pf : γ → PM δ} {V : Fz → Mem → α → γ → Prop} {V' : Fz → Mem → β → δ → Prop} (h : RelR s mem.length F mem V (x mem) (px n))
    (k : ∀ w d mem' F' n', Sp s mem.length F mem F' mem' → Wd s F' mem' n' → V F' mem' w d → RelR s mem'.length F' mem' V' (f w mem') (pf d n')) : RelR s mem.length F mem V' (SM.bind x f mem) (PM.bind px pf n) := by
  unfold PM.bind SM.bind
  cases e : px n with
  | bad => trivial
  | ex y n' =>
    rw [e] at h
    obtain ⟨w, m', F', e1, sp, wd, v⟩ := h
    rw [e1]
    exact ⟨w, m', F', rfl, sp, wd, v⟩
  | ok d n' =>
    rw [e] at h
    obtain ⟨w, m', F', e1, sp, wd, v⟩ := h
    rw [e1]
    have h2 := k w d m' F' n' sp wd v
    dsimp only
    revert h2
    cases pf d n' with
    | bad => exact fun _ => trivial
    | ex y n2 => rintro ⟨w2, m2, F2, e2, sp2, wd2, v2⟩; exact ⟨w2, m2, F2, e2, sp.trans sp2 sp.len, wd2, v2⟩
    | ok d2 n2 => rintro ⟨w2, m2, F2, e2, sp2, wd2, v2⟩; exact ⟨w2, m2, F2, e2, sp.trans sp2 sp.len, wd2, v2⟩
theorem RelR.imp {α β : Type} {V V' : Fz → Mem → α → β → Prop} {r : Res α} {p : PR β} (h : RelR s b F mem V r p) (k : ∀ F' mem' w d, Sp s b F mem F' mem' → V F' mem' w d → V' F' mem' w d) : RelR s b F mem V' r p := by
  cases p with
  | bad => trivial
  | ex y n' => exact h
  | ok d n' => obtain ⟨w, m', F', e1, sp, wd, v⟩ := h; exact ⟨w, m', F', e1, sp, wd, k _ _ _ _ sp v⟩
theorem RelR.ret {α β : Type} {V : Fz → Mem → α → β → Prop} {w : α} {d : β} (wd : Wd s F mem n) (v : V F mem w d) : RelR s b F mem V (.ok w mem) (.ok d n) := ⟨w, mem, F, rfl, Sp.refl, wd, v⟩
/-- a new place may be frozen -/
theorem RelR.close {r : Res W} {p : PR D} (hb : b ≤ mem.length) (h : RelR s b F mem (VwF s b) r p) : RelR s b F mem (Vw s) r p := by
  cases p with
  | bad => trivial
  | ex y n' => exact h
  | ok d n' =>
    obtain ⟨w, m', F', e1, sp, wd, k, c, rfl, h2, h3, h4, h5, h6⟩ := h
    exact ⟨_, m', F'.add k, e1, sp.trans (Sp.add (b := b) h2) (Nat.le_refl _), wd.add h3 (List.getElem?_eq_some_iff.mp h5).1, .loc (.inr rfl) h5 (h6.mono Fr.add)⟩
end
def SimE (m : EM) (p : PE) : Prop := ∀ s b F mem n env pe, b ≤ List.length mem → Wd s F mem n → EnvR s b F mem env pe → RelR s mem.length F mem (Vw s) (m env mem) (p pe n)
def SimO (m : EM) (p : PE) : Prop := ∀ s b F mem n env pe, b ≤ List.length mem → Wd s F mem n → EnvR s b F mem env pe → RelR s mem.length F mem (VwO s) (m env mem) (p pe n)
def SimF (m : EM) (p : PE) : Prop := ∀ s b F mem n env pe, b ≤ List.length mem → Wd s F mem n → EnvR s b F mem env pe → RelR s mem.length F mem (VwF s mem.length) (m env mem) (p pe n)
def SimB (m : BM) (p : PB) : Prop := ∀ s b F mem n env pe, b ≤ List.length mem → Wd s F mem n → EnvR s b F mem env pe → RelR s mem.length F mem (fun _ _ w d => w = d) (m env mem) (p pe n)
def SimA (m : AM) (p : PA) : Prop := ∀ s b F mem n env pe, b ≤ List.length mem → Wd s F mem n → EnvR s b F mem env pe → RelR s mem.length F mem (Vws s) (m env mem) (p pe n)
def SimAO (m : AM) (p : PA) : Prop := ∀ s b F mem n env pe, b ≤ List.length mem → Wd s F mem n → EnvR s b F mem env pe → RelR s mem.length F mem (VwOs s) (m env mem) (p pe n)
theorem SimE.o {m : EM} {p : PE} (h : SimE m p) : SimO m p := fun s b F mem n env pe hb wd er => (h s b F mem n env pe hb wd er).imp fun _ _ _ _ _ v => .inl v
theorem SimF.o {m : EM} {p : PE} (h : SimF m p) : SimO m p := fun s b F mem n env pe hb wd er => (h s b F mem n env pe hb wd er).imp fun _ _ _ _ _ v => v.o
theorem SimF.e {m : EM} {p : PE} (h : SimF m p) : SimE m p := fun s b F mem n env pe hb wd er => (h s b F mem n env pe hb wd er).close (Nat.le_refl _)
def pvC (i : Nat) : PE := fun pe n => match pe[i]? with | some (.C d) => .ok d n | _ => .bad
def pvO (i : Nat) : PE := fun pe n => match pe[i]? with | some (.C d) => .ok d n | some (.O d) => .ok d n | _ => .bad
def pK (d : D) : PE := fun _ n => .ok d n
theorem sm_vC {i : Nat} : SimE (varE i) (pvC i) := fun s b F mem n env pe hb wd er => by
  unfold pvC
  cases e : pe[i]? with
  | none => trivial
  | some x => cases x with
    | no => trivial
    | O d => trivial
    | C d =>
      obtain ⟨w, h1, h2⟩ := er.cl i d e
      unfold varE
      rw [h1]
      exact .ret wd h2
theorem sm_vO {i : Nat} : SimO (varE i) (pvO i) := fun s b F mem n env pe hb wd er => by
  unfold pvO
  cases e : pe[i]? with
  | none => trivial
  | some x => cases x with
    | no => trivial
    | O d =>
      obtain ⟨k, c, h1, _, h3, _, h5, h6⟩ := er.op i d e
      unfold varE
      rw [h1]
      exact .ret wd (.inr ⟨k, c, rfl, h3, h5, h6⟩)
    | C d =>
      obtain ⟨w, h1, h2⟩ := er.cl i d e
      unfold varE
      rw [h1]
      exact .ret wd (.inl h2)
theorem sm_c {w : W} {d : D} (h : ∀ s F mem, Vw s F mem w d) : SimE (cE w) (pK d) := fun s b F mem n env pe hb wd er => .ret wd (h s F mem)
theorem sm_int {i : Int} : SimE (cE (.int i)) (pK (.int i)) := sm_c fun _ _ _ => .int i
theorem sm_str {i : Str} : SimE (cE (.str i)) (pK (.str i)) := sm_c fun _ _ _ => .str i
theorem sm_bl {i : Bool} : SimE (cE (.bl i)) (pK (.bl i)) := sm_c fun _ _ _ => .bl i
theorem sm_non : SimE (cE .non) (pK .non) := sm_c fun _ _ _ => .non
theorem sm_ty {i : String} : SimE (cE (.ty i)) (pK (.ty i)) := sm_c fun _ _ _ => .ty i
def Op1S (f : Op1) (g : D → Option D) : Prop := ∀ s F mem n x dx, Wd s F mem n → VwO s F mem x dx → RelR s mem.length F mem (Vw s) (lift (f x mem)) (pl (g dx) n)
def Op2S (f : Op2) (g : D → D → Option D) : Prop := ∀ s F mem n x y dx dy, Wd s F mem n → VwO s F mem x dx → VwO s F mem y dy → RelR s mem.length F mem (Vw s) (lift (f x y mem)) (pl (g dx dy) n)
def Op2F (f : Op2) (g : D → D → Option D) : Prop := ∀ s F mem n x y dx dy, Wd s F mem n → VwO s F mem x dx → VwO s F mem y dy → RelR s mem.length F mem (VwF s mem.length) (lift (f x y mem)) (pl (g dx dy) n)
def OpNS (f : OpN) (g : List D → Option D) : Prop := ∀ s F mem n xs ds, Wd s F mem n → VwOs s F mem xs ds → RelR s mem.length F mem (Vw s) (lift (f xs mem)) (pl (g ds) n)
def OpNF (f : OpN) (g : List D → Option D) : Prop := ∀ s F mem n xs ds, Wd s F mem n → VwOs s F mem xs ds → RelR s mem.length F mem (VwF s mem.length) (lift (f xs mem)) (pl (g ds) n)
def pbin (g : D → D → Option D) (a c : PE) : PE := fun pe => PM.bind (a pe) fun x => PM.bind (c pe) fun y => pl (g x y)
def pun (g : D → Option D) (a : PE) : PE := fun pe => PM.bind (a pe) fun x => pl (g x)
def pcallN (g : List D → Option D) (as : PA) : PE := fun pe => PM.bind (as pe) fun xs => pl (g xs)
section
variable {ma mb mc : EM} {pa pb pc : PE} {as : AM} {ps : PA}
theorem VwF.le {s b b' : Nat} {F : Fz} {mem : Mem} {w : W} {d : D} (l : b' ≤ b) (h : VwF s b F mem w d) : VwF s b' F mem w d := let ⟨k, c, h1, h2, h3⟩ := h; ⟨k, c, h1, Nat.le_trans l h2, h3⟩
theorem sm_bin {f : Op2} {g : D → D → Option D} (h : Op2S f g) (ha : SimO ma pa) (hb : SimO mb pb) : SimE (bin f ma mb) (pbin g pa pb) := fun s b F mem n env pe hbm wd er =>
  RelR.bind (f := fun x => SM.bind (mb env) fun y => fun m => lift (f x y m)) (ha s b F mem n env pe hbm wd er) fun x dx m1 F1 n1 sp1 wd1 v1 =>
  RelR.bind (f := fun y => fun m => lift (f x y m)) (hb s b F1 m1 n1 env pe (Nat.le_trans hbm sp1.len) wd1 (er.step sp1)) fun y dy m2 F2 n2 sp2 wd2 v2 =>
  h s F2 m2 n2 x y dx dy wd2 (v1.step sp2) v2
theorem sf_bin {f : Op2} {g : D → D → Option D} (h : Op2F f g) (ha : SimO ma pa) (hb : SimO mb pb) : SimF (bin f ma mb) (pbin g pa pb) := fun s b F mem n env pe hbm wd er =>
  RelR.bind (f := fun x => SM.bind (mb env) fun y => fun m => lift (f x y m)) (ha s b F mem n env pe hbm wd er) fun x dx m1 F1 n1 sp1 wd1 v1 =>
  RelR.bind (f := fun y => fun m => lift (f x y m)) (hb s b F1 m1 n1 env pe (Nat.le_trans hbm sp1.len) wd1 (er.step sp1)) fun y dy m2 F2 n2 sp2 wd2 v2 =>
  (h s F2 m2 n2 x y dx dy wd2 (v1.step sp2) v2).imp fun _ _ _ _ _ z => z.le (Nat.le_trans sp1.len sp2.len)
theorem sm_un {f : Op1} {g : D → Option D} (h : Op1S f g) (ha : SimO ma pa) : SimE (un f ma) (pun g pa) := fun s b F mem n env pe hbm wd er =>
  RelR.bind (f := fun x => fun m => lift (f x m)) (ha s b F mem n env pe hbm wd er) fun x dx m1 F1 n1 sp1 wd1 v1 => h s F1 m1 n1 x dx wd1 v1
theorem sm_callN {f : OpN} {g : List D → Option D} (h : OpNS f g) (ha : SimAO as ps) : SimE (callN f as) (pcallN g ps) := fun s b F mem n env pe hbm wd er =>
  RelR.bind (f := fun xs => fun m => lift (f xs m)) (ha s b F mem n env pe hbm wd er) fun x dx m1 F1 n1 sp1 wd1 v1 => h s F1 m1 n1 x dx wd1 v1
theorem OpNF.s {f : OpN} {g : List D → Option D} (h : OpNF f g) : OpNS f g := fun s F mem n xs ds wd v => (h s F mem n xs ds wd v).close (Nat.le_refl _)
theorem Op2F.s {f : Op2} {g : D → D → Option D} (h : Op2F f g) : Op2S f g := fun s F mem n x y dx dy wd v v' => (h s F mem n x y dx dy wd v v').close (Nat.le_refl _)
def pnil : PA := fun _ => PM.pure []
def pcons (a : PE) (r : PA) : PA := fun pe => PM.bind (a pe) fun x => PM.bind (r pe) fun xs => PM.pure (x :: xs)
theorem sa_nil0 : SimA nilA pnil := fun s b F mem n env pe hbm wd er => .ret wd .nil
theorem so_nil0 : SimAO nilA pnil := fun s b F mem n env pe hbm wd er => .ret wd .nil
theorem sa_cons0 (ha : SimE ma pa) (hr : SimA as ps) : SimA (consA ma as) (pcons pa ps) := fun s b F mem n env pe hbm wd er =>
  RelR.bind (f := fun x => SM.bind (as env) fun xs => SM.pure (x :: xs)) (ha s b F mem n env pe hbm wd er) fun x dx m1 F1 n1 sp1 wd1 v1 =>
  RelR.bind (f := fun xs => SM.pure (x :: xs)) (hr s b F1 m1 n1 env pe (Nat.le_trans hbm sp1.len) wd1 (er.step sp1)) fun y dy m2 F2 n2 sp2 wd2 v2 => .ret wd2 (.cons (v1.mono sp2.fr) v2)
theorem so_cons0 (ha : SimO ma pa) (hr : SimAO as ps) : SimAO (consA ma as) (pcons pa ps) := fun s b F mem n env pe hbm wd er =>
  RelR.bind (f := fun x => SM.bind (as env) fun xs => SM.pure (x :: xs)) (ha s b F mem n env pe hbm wd er) fun x dx m1 F1 n1 sp1 wd1 v1 =>
  RelR.bind (f := fun xs => SM.pure (x :: xs)) (hr s b F1 m1 n1 env pe (Nat.le_trans hbm sp1.len) wd1 (er.step sp1)) fun y dy m2 F2 n2 sp2 wd2 v2 => .ret wd2 (.cons (v1.step sp2) v2)
def ptup (as : PA) : PE := fun pe => PM.bind (as pe) fun xs => PM.pure (.tup xs)
def plst (as : PA) : PE := fun pe => PM.bind (as pe) fun xs => PM.pure (.lst xs)
theorem vws_new {s b : Nat} {F : Fz} {mem : Mem} {ws : List W} {ds : List D} {n : Nat} (wd : Wd s F mem n) (v : Vws s F mem ws ds) (hb : b ≤ mem.length) :
    Sp s b F mem F (mem ++ [.lst ws]) ∧ Wd s F (mem ++ [.lst ws]) n ∧ VwF s mem.length F (mem ++ [.lst ws]) (.loc mem.length) (.lst ds) :=
  ⟨Sp.app wd.lt hb, wd.app, mem.length, _, rfl, Nat.le_refl _, fun e => by have := wd.s_lt; omega, fun h => Nat.lt_irrefl _ (wd.lt _ h), by rw [List.getElem?_append_right (Nat.le_refl _), Nat.sub_self]; rfl,
    .lst (v.mono (Sp.app (s := s) (b := 0) wd.lt (Nat.zero_le _)).fr)⟩
theorem sm_tup {k : Nat} (hn : NArgs k as) (hk : k ≤ 1000) (ha : SimA as ps) : SimE (tupE as) (ptup ps) := fun s b F mem n env pe hbm wd er => by
  have h := ha s b F mem n env pe hbm wd er
  unfold ptup tupE PM.bind SM.bind PM.pure
  revert h
  cases ps pe n with
  | bad => exact fun _ => trivial
  | ex y n' => rintro ⟨w, m', F', e1, sp, wd, v⟩; rw [e1]; exact ⟨w, m', F', rfl, sp, wd, v⟩
  | ok ds n' =>
    rintro ⟨w, m', F', e1, sp, wd, v⟩
    have hl := hn env mem w m' e1
    rw [e1]
    dsimp only
    rw [if_pos (by rw [hl, sizeLine_eq]; omega)]
    exact ⟨_, m', F', rfl, sp, wd, .tup v⟩
theorem sf_lst {k : Nat} (hn : NArgs k as) (hk : k ≤ 1000) (ha : SimA as ps) : SimF (lstE as) (plst ps) := fun s b F mem n env pe hbm wd er => by
  have h := ha s b F mem n env pe hbm wd er
  unfold plst lstE PM.bind SM.bind PM.pure
  revert h
  cases ps pe n with
  | bad => exact fun _ => trivial
  | ex y n' => rintro ⟨w, m', F', e1, sp, wd, v⟩; rw [e1]; exact ⟨w, m', F', rfl, sp, wd, v⟩
  | ok ds n' =>
    rintro ⟨w, m', F', e1, sp, wd, v⟩
    have hl := hn env mem w m' e1
    rw [e1]
    dsimp only
    rw [if_pos (by rw [hl, sizeLine_eq]; omega)]
    obtain ⟨h1, h2, h3⟩ := vws_new wd v (Nat.le_refl _)
    exact ⟨_, _, F', rfl, sp.trans h1 sp.len, h2, h3.le sp.len⟩
def pcallF (f : PFn) (as : PA) : PE := fun pe => PM.bind (as pe) fun xs => f xs
def SimFn (f : Fn) (g : PFn) : Prop := ∀ s F mem n ws ds, Wd s F mem n → Vws s F mem ws ds → RelR s (List.length mem) F mem (Vw s) (f ws mem) (g ds n)
theorem sm_callF {f : Fn} {g : PFn} (h : SimFn f g) (ha : SimA as ps) : SimE (callF f as) (pcallF g ps) := fun s b F mem n env pe hbm wd er =>
  RelR.bind (f := fun xs => f xs) (ha s b F mem n env pe hbm wd er) fun x dx m1 F1 n1 sp1 wd1 v1 => h s F1 m1 n1 x dx wd1 v1
theorem SimFn.bad {f : Fn} : SimFn f (fun _ _ => .bad) := fun _ _ _ _ _ _ _ _ => trivial
def ptB (a : PE) : PB := fun pe => PM.bind (a pe) fun d n => match d with | .bl b => .ok b n | _ => .bad
theorem VwO.bl {s : Nat} {F : Fz} {mem : Mem} {w : W} {b : Bool} (h : VwO s F mem w (.bl b)) : w = .bl b := by
  rcases h with h | ⟨n, c, _, _, _, h⟩
  · cases h with
    | bl => rfl
    | loc _ _ h => cases h
  · cases h
theorem VwO.int {s : Nat} {F : Fz} {mem : Mem} {w : W} {b : Int} (h : VwO s F mem w (.int b)) : w = .int b := by
  rcases h with h | ⟨n, c, _, _, _, h⟩
  · cases h with
    | int => rfl
    | loc _ _ h => cases h
  · cases h
theorem VwO.str {s : Nat} {F : Fz} {mem : Mem} {w : W} {b : Str} (h : VwO s F mem w (.str b)) : w = .str b := by
  rcases h with h | ⟨n, c, _, _, _, h⟩
  · cases h with
    | str => rfl
    | loc _ _ h => cases h
  · cases h
theorem VwO.ty {s : Nat} {F : Fz} {mem : Mem} {w : W} {b : String} (h : VwO s F mem w (.ty b)) : w = .ty b := by
  rcases h with h | ⟨n, c, _, _, _, h⟩
  · cases h with
    | ty => rfl
    | loc _ _ h => cases h
  · cases h
theorem VwO.non {s : Nat} {F : Fz} {mem : Mem} {w : W} (h : VwO s F mem w .non) : w = .non := by
  rcases h with h | ⟨n, c, _, _, _, h⟩
  · cases h with
    | non => rfl
    | loc _ _ h => cases h
  · cases h
theorem VwO.tup {s : Nat} {F : Fz} {mem : Mem} {w : W} {ds : List D} (h : VwO s F mem w (.tup ds)) : ∃ ws, w = .tup ws ∧ Vws s F mem ws ds := by
  rcases h with h | ⟨n, c, _, _, _, h⟩
  · cases h with
    | tup h => exact ⟨_, rfl, h⟩
    | loc _ _ h => cases h
  · cases h
/-- a list: a place -/
theorem VwO.lst {s : Nat} {F : Fz} {mem : Mem} {w : W} {ds : List D} (h : VwO s F mem w (.lst ds)) : ∃ n ws, w = .loc n ∧ mem[n]? = some (.lst ws) ∧ Vws s F mem ws ds := by
  rcases h with h | ⟨n, c, rfl, _, e, h⟩
  · cases h with
    | loc _ e h => cases h with
      | lst h => exact ⟨_, _, rfl, e, h⟩
  · cases h with
    | lst h => exact ⟨_, _, rfl, e, h⟩
theorem listAt_of {mem : Mem} {n : Nat} {ws : List W} (h : mem[n]? = some (.lst ws)) : listAt mem n = some ws := by
  unfold listAt
  rw [h]
def itemsD : D → Option (List D)
  | .tup xs => some xs
  | .lst xs => some xs
  | _ => none
theorem sb_tB (ha : SimO ma pa) : SimB (tB ma) (ptB pa) := fun s b F mem n env pe hbm wd er =>
  RelR.bind (f := fun w => fun mem => match w with | .bl b => .ok b mem | _ => .bad) (ha s b F mem n env pe hbm wd er) fun x dx m1 F1 n1 sp1 wd1 v1 => by
    cases dx with
    | bl c => rw [v1.bl]; exact .ret wd1 rfl
    | _ => trivial
variable {ba bb : BM} {qa qb : PB}
def pandB (a c : PB) : PB := fun pe => PM.bind (a pe) fun x => if x = true then c pe else PM.pure false
def porB (a c : PB) : PB := fun pe => PM.bind (a pe) fun x => if x = true then PM.pure true else c pe
def pnotB (a : PB) : PB := fun pe => PM.bind (a pe) fun x => PM.pure (!x)
theorem sb_or0 (ha : SimB ba qa) (hb : SimB bb qb) : SimB (orB ba bb) (porB qa qb) := fun s b F mem n env pe hbm wd er =>
  RelR.bind (f := fun x => if x = true then SM.pure true else bb env) (ha s b F mem n env pe hbm wd er) fun x dx m1 F1 n1 sp1 wd1 v1 => by
    subst v1
    cases x with
    | true => exact .ret wd1 rfl
    | false => exact hb s b F1 m1 n1 env pe (Nat.le_trans hbm sp1.len) wd1 (er.step sp1)
theorem sb_not0 (ha : SimB ba qa) : SimB (notB ba) (pnotB qa) := fun s b F mem n env pe hbm wd er =>
  RelR.bind (f := fun x => SM.pure (!x)) (ha s b F mem n env pe hbm wd er) fun x dx m1 F1 n1 sp1 wd1 v1 => by
    subst v1
    exact .ret wd1 rfl
def pisB : D → Option Bool
  | .bl b => some b
  | _ => none
def pboolE (a yes no : PE) : PE := fun pe => PM.bind (a pe) fun d => match pisB d with
  | some true => yes pe
  | some false => no pe
  | none => fun _ => .bad
def pandV (a c : PE) : PE := pboolE a c (pK (.bl false))
def porV (a c : PE) : PE := pboolE a (pK (.bl true)) c
def pnotV (a : PE) : PE := pboolE a (pK (.bl false)) (pK (.bl true))
theorem sm_boolE (ha : SimO ma pa) (hb : SimE mb pb) (hc : SimE mc pc) : SimE (boolE isB ma mb mc) (pboolE pa pb pc) := fun s b F mem n env pe hbm wd er =>
  RelR.bind (f := fun w => match isB w with | some true => mb env | some false => mc env | none => fun _ => .bad) (ha s b F mem n env pe hbm wd er) fun x dx m1 F1 n1 sp1 wd1 v1 => by
    cases dx with
    | bl c =>
      rw [v1.bl]
      cases c with
      | true => exact hb s b F1 m1 n1 env pe (Nat.le_trans hbm sp1.len) wd1 (er.step sp1)
      | false => exact hc s b F1 m1 n1 env pe (Nat.le_trans hbm sp1.len) wd1 (er.step sp1)
    | _ => trivial
theorem sm_and (ha : SimO ma pa) (hb : SimE mb pb) : SimE (andV ma mb) (pandV pa pb) := sm_boolE ha hb sm_bl
theorem sm_or (ha : SimO ma pa) (hb : SimE mb pb) : SimE (orV ma mb) (porV pa pb) := sm_boolE ha sm_bl hb
theorem sm_not (ha : SimO ma pa) : SimE (notV ma) (pnotV pa) := sm_boolE ha sm_bl sm_bl
def pifE (t : PB) (a c : PE) : PE := fun pe => PM.bind (t pe) fun x => if x = true then a pe else c pe
def pchain (f g : D → D → Option D) (a c e : PE) : PE := fun pe => PM.bind (a pe) fun x => PM.bind (c pe) fun y => PM.bind (pl (f x y)) fun z => match pisB z with
  | some true => PM.bind (e pe) fun w => pl (g y w)
  | some false => PM.pure (.bl false)
  | none => fun _ => .bad
end
end Sh
set_option linter.all false
set_option maxRecDepth 100000
set_option maxHeartbeats 4000000
namespace Sh
open PySem PySem.Spec PyProof.Rows L2
inductive QR where
  | nx (e : PEnv) (n : Nat) | rt (d : D) (n : Nat) | bk (e : PEnv) (n : Nat) | ct (e : PEnv) (n : Nat) | ex (x : PX) (e : PEnv) (n : Nat) | bad
abbrev PS := PEnv → Nat → QR
def RelS (s b : Nat) (F : Fz) (mem : Mem) (r : SRes) (p : QR) : Prop := match p with
  | .nx pe n' => ∃ env mem' F', r = .nx env mem' ∧ Sp s b F mem F' mem' ∧ Wd s F' mem' n' ∧ EnvR s b F' mem' env pe
  | .bk pe n' => ∃ env mem' F', r = .bk env mem' ∧ Sp s b F mem F' mem' ∧ Wd s F' mem' n' ∧ EnvR s b F' mem' env pe
  | .ct pe n' => ∃ env mem' F', r = .ct env mem' ∧ Sp s b F mem F' mem' ∧ Wd s F' mem' n' ∧ EnvR s b F' mem' env pe
  | .rt d n' => ∃ w mem' F', r = .rt w mem' ∧ Sp s b F mem F' mem' ∧ Wd s F' mem' n' ∧ Vw s F' mem' w d
  | .ex x pe n' => ∃ y env mem' F', r = .exc y env mem' ∧ Sp s b F mem F' mem' ∧ Wd s F' mem' n' ∧ Vx s F' mem' y x ∧ EnvR s b F' mem' env pe
  | .bad => True
def SimS (t : SS) (p : PS) : Prop := ∀ s b F mem n env pe, b ≤ List.length mem → Wd s F mem n → EnvR s b F mem env pe → RelS s b F mem (t env mem) (p pe n)
section
variable {s b : Nat} {F F' : Fz} {mem mem' : Mem} {n : Nat}
/-- what went before is a part of it -/
theorem RelS.pre {r : SRes} {p : QR} (sp : Sp s b F mem F' mem') (h : RelS s b F' mem' r p) : RelS s b F mem r p := by
  cases p with
  | bad => trivial
  | nx pe n' => obtain ⟨e, m, F2, e1, sp2, q⟩ := h; exact ⟨e, m, F2, e1, sp.trans sp2 (Nat.le_refl _), q⟩
  | bk pe n' => obtain ⟨e, m, F2, e1, sp2, q⟩ := h; exact ⟨e, m, F2, e1, sp.trans sp2 (Nat.le_refl _), q⟩
  | ct pe n' => obtain ⟨e, m, F2, e1, sp2, q⟩ := h; exact ⟨e, m, F2, e1, sp.trans sp2 (Nat.le_refl _), q⟩
  | rt d n' => obtain ⟨e, m, F2, e1, sp2, q⟩ := h; exact ⟨e, m, F2, e1, sp.trans sp2 (Nat.le_refl _), q⟩
  | ex x pe n' => obtain ⟨y, e, m, F2, e1, sp2, q⟩ := h; exact ⟨y, e, m, F2, e1, sp.trans sp2 (Nat.le_refl _), q⟩
theorem RelS.nxt {env : VEnv} {pe : PEnv} (wd : Wd s F mem n) (er : EnvR s b F mem env pe) : RelS s b F mem (.nx env mem) (.nx pe n) := ⟨env, mem, F, rfl, Sp.refl, wd, er⟩
end
/-- an expression, then what is done with its value -/
def pofE {α : Type} (m : PEnv → PM α) (k : α → PS) : PS := fun pe n => match m pe n with
  | .ok d n' => k d pe n'
  | .ex x n' => .ex x pe n'
  | .bad => .bad
theorem sim_ofE {α β : Type} {m : VEnv → SM α} {k : α → SS} {p : PEnv → PM β} {q : β → PS} {V : Nat → Nat → Fz → Mem → α → β → Prop}
    (h : ∀ s b F mem n env pe, b ≤ List.length mem → Wd s F mem n → EnvR s b F mem env pe → RelR s mem.length F mem (V s mem.length) (m env mem) (p pe n))
    (hk : ∀ s b b0 F mem n env pe w d, b ≤ b0 → b0 ≤ List.length mem → Wd s F mem n → EnvR s b F mem env pe → (∀ (j : Nat) (e : D) (c : Nat), pe[j]? = some (.O e) → env[j]? = some (some (.loc c)) → c < b0) → V s b0 F mem w d → RelS s b F mem (k w env mem) (q d pe n)) : SimS (ofE m k) (pofE p q) := fun s b F mem n env pe hb wd er => by
  have h1 := h s b F mem n env pe hb wd er
  unfold ofE pofE
  revert h1
  cases p pe n with
  | bad => exact fun _ => trivial
  | ex x n' =>
    rintro ⟨y, m', F', e1, sp, wd', v⟩
    rw [e1]
    exact ⟨y, env, m', F', rfl, sp.le hb, wd', v, er.step sp⟩
  | ok d n' =>
    rintro ⟨w, m', F', e1, sp, wd', v⟩
    rw [e1]
    refine RelS.pre (sp.le hb) (hk s b mem.length F' m' n' env pe w d hb sp.len wd' (er.step sp) (fun j e c hj hc => ?_) v)
    obtain ⟨k2, c2, g1, _, _, _, g5, _⟩ := er.op j e hj
    rw [hc] at g1
    cases g1
    exact (List.getElem?_eq_some_iff.mp g5).1
section
variable {m : EM} {p : PE} {t u : SS} {q r : PS}
def psq (q r : PS) : PS := fun pe n => match q pe n with
  | .nx e k => r e k
  | .rt d k => .rt d k
  | .bk e k => .bk e k
  | .ct e k => .ct e k
  | .ex x e k => .ex x e k
  | .bad => .bad
theorem ss_sq (h1 : SimS t q) (h2 : SimS u r) : SimS (seqS t u) (psq q r) := fun s b F mem n env pe hb wd er => by
  have h := h1 s b F mem n env pe hb wd er
  unfold seqS psq
  revert h
  cases q pe n with
  | bad => exact fun _ => trivial
  | nx e k => rintro ⟨e', m', F', e1, sp, wd', er'⟩; rw [e1]; exact RelS.pre sp (h2 s b F' m' k e' e (Nat.le_trans hb sp.len) wd' er')
  | rt d k => rintro ⟨w, m', F', e1, h⟩; rw [e1]; exact ⟨w, m', F', rfl, h⟩
  | bk d k => rintro ⟨w, m', F', e1, h⟩; rw [e1]; exact ⟨w, m', F', rfl, h⟩
  | ct d k => rintro ⟨w, m', F', e1, h⟩; rw [e1]; exact ⟨w, m', F', rfl, h⟩
  | ex x d k => rintro ⟨y, w, m', F', e1, h⟩; rw [e1]; exact ⟨y, w, m', F', rfl, h⟩
def pnx : PS := fun pe n => .nx pe n
def pbk : PS := fun pe n => .bk pe n
def pct : PS := fun pe n => .ct pe n
def pret (p : PE) : PS := pofE p fun d _ n => .rt d n
def pretN : PS := fun _ n => .rt .non n
def pdrop (p : PE) : PS := pofE p fun _ pe n => .nx pe n
def pset (i : Nat) (p : PE) : PS := pofE p fun d pe n => .nx (pe.set i (.C d)) n
def psetO (i : Nat) (p : PE) : PS := pofE p fun d pe n => .nx (pe.set i (.O d)) n
def pif (c : PB) (q r : PS) : PS := pofE c fun x => if x = true then q else r
theorem ss_nx : SimS nextS pnx := fun s b F mem n env pe hb wd er => .nxt wd er
theorem ss_ret0 (h : SimE m p) : SimS (retS m) (pret p) := sim_ofE (V := fun s _ => Vw s) h fun s b b0 F mem n env pe w d _ hb wd er _ v => ⟨w, mem, F, rfl, Sp.refl, wd, v⟩
theorem ss_set0 {i : Nat} (h : SimE m p) : SimS (setS i m) (pset i p) := sim_ofE (V := fun s _ => Vw s) h fun s b b0 F mem n env pe w d _ hb wd er _ v => .nxt wd (er.setC v i)
theorem ss_if0 {c : BM} {pc : PB} (hc : SimB c pc) (h1 : SimS t q) (h2 : SimS u r) : SimS (ifS c t u) (pif pc q r) := sim_ofE (V := fun _ _ _ _ w d => w = d) hc fun s b b0 F mem n env pe w d _ hb wd er _ v => by
  subst v
  cases w with
  | true => exact h1 s b F mem n env pe (by omega) wd er
  | false => exact h2 s b F mem n env pe (by omega) wd er
/-- the slot i's place is kept as it stands from here on -/
def pfrz (i : Nat) : PS := fun pe n => match pe[i]? with
  | some (.O d) => .nx (pe.set i (.C d)) n
  | some (.C _) => .nx pe n
  | _ => .bad
abbrev PG := D → PEnv → Option PEnv
abbrev PGs := List D → PEnv → Option PEnv
def SimGC (g : GM) (pg : PG) : Prop := ∀ s b F mem w d env pe pe', EnvR s b F mem env pe → Vw s F mem w d → pg d pe = some pe' → ∃ env', g w env mem = .ok env' mem ∧ EnvR s b F mem env' pe'
def pgN (i : Nat) : PG := fun d pe => some (pe.set i (.C d))
def pgNil : PGs := fun ds pe => match ds with | [] => some pe | _ => none
def pgCons (g : PG) (r : PGs) : PGs := fun ds pe => match ds with | d :: t => (g d pe).bind fun e => r t e | [] => none
def pgSeq (k : Nat) (g : PGs) : PG := fun d pe => match itemsD d with
  | some ds => if ds.length = k then g ds pe else none
  | none => none
theorem gc_name {i : Nat} : SimGC (nameG i) (pgN i) := fun s b F mem w d env pe pe' er v e => by
  cases e
  exact ⟨_, rfl, er.setC v i⟩
def pasg (p : PE) (g : PG) : PS := pofE p fun d pe n => match g d pe with
  | some pe' => .nx pe' n
  | none => .bad
def ppar (i j : Nat) (as : PA) : PS := pofE as fun ds pe n => match ds with
  | [v, w] => .nx ((pe.set i (.C v)).set j (.C w)) n
  | _ => .bad
def paug (i : Nat) (g : D → D → Option D) (p : PE) : PS := pset i (pbin g (pvO i) p)
abbrev PI := PEnv → PM (List D)
def VI (s : Nat) (F : Fz) (mem : Mem) (wk : Walk) (xs : List D) : Prop := wk.k = xs.length ∧ ∀ F' mem', Fr F mem F' mem' → ∀ i, i ≤ xs.length → ∃ o, wk.nx i mem' = some o ∧ match xs[i]? with
  | none => o = none
  | some d => ∃ w, o = some w ∧ Vw s F' mem' w d
def SimI (m : IM) (p : PI) : Prop := ∀ s b F mem n env pe, b ≤ List.length mem → Wd s F mem n → EnvR s b F mem env pe → RelR s mem.length F mem (VI s) (m env mem) (p pe n)
def pseq (p : PE) : PI := fun pe => PM.bind (p pe) fun d => pl (itemsD d)
theorem VI.tup {s : Nat} {F : Fz} {mem : Mem} {ws : List W} {ds : List D} (v : Vws s F mem ws ds) : VI s F mem ⟨tupN ws, ws.length⟩ ds := ⟨v.length, fun F' mem' f i hi => ⟨ws[i]?, rfl, by
  cases e : ds[i]? with
  | none => exact List.getElem?_eq_none (by rw [v.length]; exact List.getElem?_eq_none_iff.mp e)
  | some d =>
    obtain ⟨w, h1, h2⟩ := v.get e
    exact ⟨w, h1, h2.mono f⟩⟩⟩
theorem si_seq0 (h : SimE m p) : SimI (seqI m) (pseq p) := fun s b F mem n env pe hb wd er => by
  refine RelR.bind (f := fun w mem => match walkOf w mem with | some wk => .ok wk mem | none => .bad) (h s b F mem n env pe hb wd er) fun w d m1 F1 n1 sp wd1 v => ?_
  cases v with
  | tup v => exact .ret wd1 (.tup v)
  | @loc k c d hF e hc =>
    cases hc with
    | @lst ws ds v =>
      unfold walkOf
      dsimp only
      rw [listAt_of e]
      refine .ret wd1 ⟨v.length, fun F' mem' f i hi => ⟨ws[i]?, ?_, ?_⟩⟩
      · show (locN k i mem') = _
        unfold locN
        rw [listAt_of ((f.keep k hF).trans e)]
        rfl
      · cases e2 : ds[i]? with
        | none => exact List.getElem?_eq_none (by rw [v.length]; exact List.getElem?_eq_none_iff.mp e2)
        | some d =>
          obtain ⟨w, h1, h2⟩ := v.get e2
          exact ⟨w, h1, h2.mono f⟩
    | _ => trivial
  | _ => trivial
def rgD (lo : Int) (k : Nat) : List D := (List.range k).map fun i => D.int (lo + ((i : Nat) : Int))
theorem rgD_length {lo : Int} {k : Nat} : (rgD lo k).length = k := by unfold rgD; rw [List.length_map, List.length_range]
theorem rgD_get {lo : Int} {k i : Nat} : (rgD lo k)[i]? = if i < k then some (D.int (lo + ((i : Nat) : Int))) else none := by
  unfold rgD
  rw [List.getElem?_map]
  by_cases h : i < k
  · rw [if_pos h, List.getElem?_range h]; rfl
  · rw [if_neg h, List.getElem?_eq_none (by rw [List.length_range]; omega)]; rfl
theorem VI.rng {s : Nat} {F : Fz} {mem : Mem} {lo : Int} {k : Nat} : VI s F mem ⟨rngN lo k, k⟩ (rgD lo k) := ⟨rgD_length.symm, fun F' mem' f i hi => ⟨_, rfl, by
  rw [rgD_get]
  by_cases h : i < k
  · rw [if_pos h, if_pos h]; exact ⟨_, rfl, .int _⟩
  · rw [if_neg h, if_neg h]⟩⟩
def prng1 (as : PA) : PI := fun pe => PM.bind (as pe) fun ds => match ds with
  | [.int j] => if j.toNat < 4611686018427387904 ∧ -(2 ^ 62) ≤ j ∧ j < 2 ^ 62 then PM.pure (rgD 0 j.toNat) else fun _ => .bad
  | _ => fun _ => .bad
theorem Vw.int_eq {s : Nat} {F : Fz} {mem : Mem} {w : W} {b : Int} (h : Vw s F mem w (.int b)) : w = .int b := VwO.int (.inl h)
variable {as : AM} {ps : PA}
theorem si_rng1 (h : SimA as ps) : SimI (rng1I as) (prng1 ps) := fun s b F mem n env pe hb wd er => by
  unfold rng1I prng1
  refine RelR.bind (h s b F mem n env pe hb wd er) fun ws ds m1 F1 n1 sp wd1 v => ?_
  cases v with
  | nil => trivial
  | @cons w d ws ds v1 v =>
    cases v with
    | cons _ _ => cases d <;> trivial
    | nil =>
      cases d with
      | int j =>
        rw [v1.int_eq]
        dsimp only
        by_cases hj : -(2 ^ 62) ≤ j ∧ j < 2 ^ 62
        · rw [if_pos hj, if_pos ⟨by omega, hj⟩]; exact .ret wd1 .rng
        · rw [if_neg hj, if_neg fun q => hj q.2]; trivial
      | _ => trivial
def ploop (g : PG) (q : PS) : List D → PS
  | [] => pnx
  | x :: xs => fun pe n => match g x pe with
    | none => .bad
    | some e => match q e n with
      | .nx e n => ploop g q xs e n
      | .ct e n => ploop g q xs e n
      | .bk e n => .nx e n
      | .rt d n => .rt d n
      | .ex x e n => .ex x e n
      | .bad => .bad
def pfor (it : PI) (g : PG) (q : PS) : PS := pofE it fun xs => ploop g q xs
theorem ss_loop0 {nx : Nxt} {g : GM} {pg : PG} (hg : SimGC g pg) (h : SimS t q) (xs : List D) (s : Nat) (F0 : Fz) (mem0 : Mem) (hv : ∀ F' mem', Fr F0 mem0 F' mem' → ∀ i, i ≤ xs.length → ∃ o, nx i mem' = some o ∧ match xs[i]? with
      | none => o = none
      | some d => ∃ w, o = some w ∧ Vw s F' mem' w d) :
    ∀ (k i : Nat) (b : Nat) (F : Fz) (mem : Mem) (n : Nat) (env : VEnv) (pe : PEnv), i + k = xs.length → b ≤ mem.length → Fr F0 mem0 F mem → Wd s F mem n → EnvR s b F mem env pe → RelS s b F mem (loopS nx g t k i env mem) (ploop pg q (xs.drop i) pe n) := by
  intro k
  induction k with
  | zero =>
    intro i b F mem n env pe hi hb f wd er
    have e : i = xs.length := by omega
    subst e
    rw [List.drop_length]
    obtain ⟨o, h1, h2⟩ := hv F mem f xs.length (Nat.le_refl _)
    rw [List.getElem?_eq_none (Nat.le_refl _)] at h2
    unfold loopS
    rw [h1, h2]
    exact .nxt wd er
  | succ k ih =>
    intro i b F mem n env pe hi hb f wd er
    have hl : i < xs.length := by omega
    obtain ⟨o, h1, h2⟩ := hv F mem f i (by omega)
    rw [List.getElem?_eq_getElem hl] at h2
    obtain ⟨w, rfl, v⟩ := h2
    rw [List.drop_eq_getElem_cons hl]
    unfold loopS ploop
    rw [h1]
    dsimp only
    cases eg : pg xs[i] pe with
    | none => trivial
    | some pe1 =>
      obtain ⟨env1, g1, er1⟩ := hg s b F mem w _ env pe pe1 er v eg
      rw [g1]
      dsimp only
      have h3 := h s b F mem n env1 pe1 hb wd er1
      revert h3
      cases q pe1 n with
      | bad => exact fun _ => trivial
      | nx e k' => rintro ⟨e', m', F', e1, sp, wd', er'⟩; rw [e1]; exact RelS.pre sp (ih (i + 1) b F' m' k' e' e (by omega) (Nat.le_trans hb sp.len) (f.trans sp.fr) wd' er')
      | ct e k' => rintro ⟨e', m', F', e1, sp, wd', er'⟩; rw [e1]; exact RelS.pre sp (ih (i + 1) b F' m' k' e' e (by omega) (Nat.le_trans hb sp.len) (f.trans sp.fr) wd' er')
      | bk e k' => rintro ⟨e', m', F', e1, hh⟩; rw [e1]; exact ⟨e', m', F', rfl, hh⟩
      | rt d k' => rintro ⟨w, m', F', e1, hh⟩; rw [e1]; exact ⟨w, m', F', rfl, hh⟩
      | ex x d k' => rintro ⟨y, w, m', F', e1, hh⟩; rw [e1]; exact ⟨y, w, m', F', rfl, hh⟩
theorem ss_for0 {it : IM} {pit : PI} {g : GM} {pg : PG} (hi : SimI it pit) (hg : SimGC g pg) (h : SimS t q) : SimS (forS it g t) (pfor pit pg q) :=
  sim_ofE (V := fun s _ => VI s) hi fun s b b0 F mem n env pe wk xs _ hb wd er _ v => by
    have := ss_loop0 hg h xs s F mem v.2 wk.k 0 b F mem n env pe (by rw [v.1]; omega) (by omega) Fr.refl wd er
    rw [List.drop_zero] at this
    exact this
end
def pwipe (pe : PEnv) : List Nat → PEnv
  | [] => pe
  | v :: vs => (pwipe pe vs).set v .no
theorem EnvR.wipe {s b : Nat} {F : Fz} {mem : Mem} {env : VEnv} {pe : PEnv} (r : EnvR s b F mem env pe) : ∀ vs : List Nat, EnvR s b F mem (wipeE env vs) (pwipe pe vs)
  | [] => r
  | v :: vs => (r.wipe vs).unset v
def plcL (g : PG) (t : PB) (e : PE) (pe : PEnv) : List D → List D → PM D
  | [], acc => PM.pure (.lst acc)
  | x :: xs, acc => match g x pe with
    | none => fun _ => .bad
    | some pe1 => fun n => match t pe1 n with
      | .ok true n1 => match e pe1 n1 with
        | .ok d n2 => plcL g t e pe xs (acc ++ [d]) n2
        | _ => .bad
      | .ok false n1 => plcL g t e pe xs acc n1
      | _ => .bad
def plc (it : PI) (g : PG) (t : PB) (e : PE) (vs : List Nat) : PE := fun pe => PM.bind (it pe) fun xs => if xs.length < 16777216 then plcL g t e (pwipe pe vs) xs [] else fun _ => .bad
theorem sf_lc {it : IM} {pit : PI} {g : GM} {pg : PG} {t : BM} {pt : PB} {e : EM} {p : PE} {vs : List Nat} (hi : SimI it pit) (hg : SimGC g pg) (ht : SimB t pt) (he : SimE e p) : SimF (lcE it g t e vs) (plc pit pg pt p vs) := fun s b F mem n env pe hb wd er => by
  have hi1 := hi s b F mem n env pe hb wd er
  unfold lcE plc PM.bind SM.bind
  revert hi1
  cases pit pe n with
  | bad => exact fun _ => trivial
  | ex x n' => rintro ⟨y, m', F', e1, h⟩; rw [e1]; exact ⟨y, m', F', rfl, h⟩
  | ok xs n' =>
    rintro ⟨wk, m1, F1, e1, sp1, wd1, hk, hv⟩
    rw [e1]
    dsimp only
    by_cases hz : xs.length < 16777216
    case neg => rw [if_neg hz]; trivial
    rw [if_pos hz]
    have er1 := (er.step sp1)
    obtain ⟨spD, wdD, _⟩ := vws_new (b := m1.length) wd1 (.nil (s := s) (F := F1) (mem := m1)) (Nat.le_refl _)
    -- one turn after another
    have key : ∀ (k i : Nat) (acc : List W) (ds : List D) (F2 : Fz) (m2 : Mem) (n2 : Nat), i + k = xs.length → acc.length ≤ i → Sp s m1.length F1 m1 F2 m2 → Wd s F2 m2 n2 → ¬ F2 m1.length → m2[m1.length]? = some (.lst acc) → Vws s F2 m2 acc ds →
        match plcL pg pt p (pwipe pe vs) (xs.drop i) ds n2 with
        | .ok d n' => ∃ m3 F3, lcLoop wk.nx g t e vs m1.length env k i m2 = some m3 ∧ Sp s m1.length F1 m1 F3 m3 ∧ Wd s F3 m3 n' ∧ VwF s m1.length F3 m3 (.loc m1.length) d
        | .ex _ _ => False
        | .bad => True := by
      intro k
      induction k with
      | zero =>
        intro i acc ds F2 m2 n2 hik _ sp wd2 nf hD va
        have ei : i = xs.length := by omega
        subst ei
        rw [List.drop_length]
        obtain ⟨o, h1, h2⟩ := hv F2 m2 sp.fr xs.length (Nat.le_refl _)
        rw [List.getElem?_eq_none (Nat.le_refl _)] at h2
        unfold lcLoop plcL
        rw [h1, h2]
        exact ⟨m2, F2, rfl, sp, wd2, _, _, rfl, Nat.le_refl _, by have := wd1.s_lt; omega, nf, hD, .lst va⟩
      | succ k ih =>
        intro i acc ds F2 m2 n2 hik hacc sp wd2 nf hD va
        have hl : i < xs.length := by omega
        obtain ⟨o, h1, h2⟩ := hv F2 m2 sp.fr i (by omega)
        rw [List.getElem?_eq_getElem hl] at h2
        obtain ⟨w, rfl, v⟩ := h2
        rw [List.drop_eq_getElem_cons hl]
        unfold lcLoop plcL
        rw [h1]
        dsimp only
        have er2 := (er1.step sp).wipe vs
        cases eg : pg xs[i] (pwipe pe vs) with
        | none => trivial
        | some pe1 =>
          obtain ⟨env1, g1, er3⟩ := hg s b F2 m2 w _ _ _ pe1 er2 v eg
          rw [g1]
          dsimp only
          have hb2 : b ≤ m2.length := by have := sp1.len; have := sp.len; omega
          have hDl : m1.length < m2.length := (List.getElem?_eq_some_iff.mp hD).1
          have ht1 := ht s b F2 m2 n2 env1 pe1 hb2 wd2 er3
          revert ht1
          cases pt pe1 n2 with
          | bad => exact fun _ => trivial
          | ex x n' => exact fun _ => trivial
          | ok c n3 =>
            rintro ⟨c', m3, F3, e3, sp3, wd3, rfl⟩
            rw [e3]
            have hsD : m1.length ≠ s := by have := wd1.s_lt; omega
            have hD3 : m3[m1.length]? = some (.lst acc) := by rw [sp3.old _ hDl hsD]; exact hD
            have nf3 : ¬ F3 m1.length := fun q => nf (sp3.low _ hDl q)
            have sp13 := sp.trans sp3 sp.len
            cases c' with
            | false =>
              dsimp only
              exact ih (i + 1) acc ds F3 m3 n3 (by omega) (by omega) sp13 wd3 nf3 hD3 (va.mono sp3.fr)
            | true =>
              dsimp only
              have he1 := he s b F3 m3 n3 env1 pe1 (Nat.le_trans hb2 sp3.len) wd3 (er3.step sp3)
              revert he1
              cases p pe1 n3 with
              | bad => exact fun _ => trivial
              | ex x n' => exact fun _ => trivial
              | ok d n4 =>
                rintro ⟨u, m4, F4, e4, sp4, wd4, vu⟩
                rw [e4]
                dsimp only
                have hDl3 : m1.length < m3.length := Nat.lt_of_lt_of_le hDl sp3.len
                have hD4 : m4[m1.length]? = some (.lst acc) := by rw [sp4.old _ hDl3 hsD]; exact hD3
                have nf4 : ¬ F4 m1.length := fun q => nf3 (sp4.low _ hDl3 q)
                have sp14 := sp13.trans sp4 sp13.len
                rw [listAt_of hD4]
                dsimp only
                rw [if_pos (by rw [sizeLine_eq]; omega)]
                have hDl4 : m1.length < m4.length := Nat.lt_of_lt_of_le hDl3 sp4.len
                have f5 : Fr F4 m4 F4 (m4.set m1.length (.lst (acc ++ [u]))) := ⟨fun _ h => h, fun j h => List.getElem?_set_ne (by rintro rfl; exact nf4 h)⟩
                have sp5 : Sp s m1.length F4 m4 F4 (m4.set m1.length (.lst (acc ++ [u]))) := ⟨f5, fun _ _ h => h, fun j h _ => List.getElem?_set_ne (by omega), by rw [List.length_set]; omega⟩
                refine ih (i + 1) (acc ++ [u]) (ds ++ [d]) F4 _ n4 (by omega) (by rw [List.length_append, List.length_singleton]; omega) (sp14.trans sp5 (Nat.le_refl _)) ⟨?_, wd4.nf, fun j h => by rw [List.length_set]; exact wd4.lt j h⟩ nf4 (List.getElem?_set_self hDl4) ((va.mono ((sp3.fr.trans sp4.fr).trans f5)).append (.cons (vu.mono f5) .nil))
                rw [List.getElem?_set_ne hsD]
                exact wd4.spot
    have h := key xs.length 0 [] [] F1 (m1 ++ [.lst []]) n' (by omega) (Nat.le_refl _) spD wdD (fun q => Nat.lt_irrefl _ (wd1.lt _ q)) (by rw [List.getElem?_append_right (Nat.le_refl _), Nat.sub_self]; rfl) .nil
    rw [List.drop_zero] at h
    revert h
    cases plcL pg pt p (pwipe pe vs) xs [] n' with
    | bad => exact fun _ => trivial
    | ex x n2 => exact fun h => h.elim
    | ok d n2 =>
      rintro ⟨m3, F3, e3, sp3, wd3, v3⟩
      rw [hk, e3]
      exact ⟨_, m3, F3, rfl, sp1.trans sp3 sp1.len, wd3, v3.le sp1.len⟩
def pyes : PB := fun _ => PM.pure true
theorem sb_yes : SimB yesB pyes := fun s b F mem n env pe hb wd er => .ret wd rfl
def pstart (k : Nat) (ds : List D) : PEnv := ds.map Sl.C ++ List.replicate (k - ds.length) .no
def prun (k : Nat) (q : PS) : PFn := fun ds n => match q (pstart k ds) n with
  | .nx _ n => .ok .non n
  | .rt d n => .ok d n
  | .ex x _ n => .ex x n
  | _ => .bad
theorem EnvR.start {s b : Nat} {F : Fz} {mem : Mem} {k : Nat} {ws : List W} {ds : List D} (v : Vws s F mem ws ds) : EnvR s b F mem (startE k ws) (pstart k ds) := by
  have hl := v.length
  have no : ∀ (i : Nat) (d : D), (pstart k ds)[i]? ≠ some (.O d) := fun i d h => by
    unfold pstart at h
    by_cases hi : i < ds.length
    · rw [List.getElem?_append_left (by rw [List.length_map]; exact hi), List.getElem?_map] at h
      cases e : ds[i]? with
      | none => rw [e] at h; cases h
      | some d => rw [e] at h; cases h
    · rw [List.getElem?_append_right (by rw [List.length_map]; omega), List.getElem?_replicate] at h
      split at h <;> cases h
  refine ⟨by unfold startE pstart; simp [hl], fun i d h => ?_, fun i d h => absurd h (no i d), fun i j d e n _ h => absurd h (no i d)⟩
  unfold pstart at h
  unfold startE
  by_cases hi : i < ds.length
  · rw [List.getElem?_append_left (by rw [List.length_map]; exact hi), List.getElem?_map] at h
    cases e : ds[i]? with
    | none => rw [e] at h; cases h
    | some d' =>
      rw [e] at h
      cases h
      obtain ⟨w, h1, h2⟩ := v.get e
      exact ⟨w, by rw [List.getElem?_append_left (by rw [List.length_map]; omega), List.getElem?_map, h1]; rfl, h2⟩
  · rw [List.getElem?_append_right (by rw [List.length_map]; omega), List.getElem?_replicate] at h
    split at h <;> cases h
theorem sim_run {k : Nat} {t : SS} {q : PS} (h : SimS t q) : SimFn (runB k t) (prun k q) := fun s F mem n ws ds wd v => by
  have h1 := h s mem.length F mem n (startE k ws) (pstart k ds) (Nat.le_refl _) wd (EnvR.start v)
  unfold runB prun
  revert h1
  cases q (pstart k ds) n with
  | bad => exact fun _ => trivial
  | nx e k' => rintro ⟨e', m', F', e1, sp, wd', er'⟩; rw [e1]; exact ⟨_, m', F', rfl, sp, wd', .non⟩
  | bk e k' => exact fun _ => trivial
  | ct e k' => exact fun _ => trivial
  | rt d k' => rintro ⟨w, m', F', e1, sp, wd', v⟩; rw [e1]; exact ⟨w, m', F', rfl, sp, wd', v⟩
  | ex x e k' => rintro ⟨y, e', m', F', e1, sp, wd', v, _⟩; rw [e1]; exact ⟨y, m', F', rfl, sp, wd', v⟩
end Sh
set_option linter.all false
set_option maxRecDepth 100000
set_option maxHeartbeats 4000000
namespace Sh
open PySem PySem.Spec PyProof.Rows L2
theorem op1_of {f : Op1} {g : D → Option D} (h : ∀ s F mem x dx d, VwO s F mem x dx → g dx = some d → ∃ w, f x mem = some (w, mem) ∧ Vw s F mem w d) : Op1S f g := fun s F mem n x dx wd v => by
  unfold pl
  cases e : g dx with
  | none => trivial
  | some d => obtain ⟨w, e1, e2⟩ := h s F mem x dx d v e; rw [e1]; exact .ret wd e2
theorem op2_of {f : Op2} {g : D → D → Option D} (h : ∀ s F mem x y dx dy d, VwO s F mem x dx → VwO s F mem y dy → g dx dy = some d → ∃ w, f x y mem = some (w, mem) ∧ Vw s F mem w d) : Op2S f g := fun s F mem n x y dx dy wd v v' => by
  unfold pl
  cases e : g dx dy with
  | none => trivial
  | some d => obtain ⟨w, e1, e2⟩ := h s F mem x y dx dy d v v' e; rw [e1]; exact .ret wd e2
theorem opN_of {f : OpN} {g : List D → Option D} (h : ∀ s F mem xs ds d, VwOs s F mem xs ds → g ds = some d → ∃ w, f xs mem = some (w, mem) ∧ Vw s F mem w d) : OpNS f g := fun s F mem n xs ds wd v => by
  unfold pl
  cases e : g ds with
  | none => trivial
  | some d => obtain ⟨w, e1, e2⟩ := h s F mem xs ds d v e; rw [e1]; exact .ret wd e2
def iiD (C : Int → Int → Bool) (g : Int → Int → D) : D → D → Option D := fun x y => match x, y with
  | .int i, .int j => if C i j = true then some (g i j) else none
  | _, _ => none
theorem os_ii {C : Int → Int → Bool} {g : Int → Int → W} {g' : Int → Int → D} (h : ∀ s F mem i j, Vw s F mem (g i j) (g' i j)) : Op2S (iiV C g) (iiD C g') := op2_of fun s F mem x y dx dy d v v' e => by
  unfold iiD at e
  split at e
  · rename_i i j
    rw [v.int, v'.int]
    by_cases hc : C i j = true
    · rw [if_pos hc] at e
      cases e
      exact ⟨_, by unfold iiV; dsimp only; rw [if_pos hc], h _ _ _ _ _⟩
    · rw [if_neg hc] at e; cases e
  · cases e
def subD : D → D → Option D := iiD (fun _ _ => true) fun i j => .int (i - j)
theorem os_sub : Op2S subV subD := os_ii fun _ _ _ _ _ => .int _
def negD : D → Option D := fun x => match x with
  | .int i => some (.int (-i))
  | _ => none
theorem os_neg : Op1S negV negD := op1_of fun s F mem x dx d v e => by
  cases dx with
  | int i => cases e; rw [v.int]; exact ⟨_, rfl, .int _⟩
  | _ => cases e
def addD : D → D → Option D := fun x y => match x, y with
  | .int i, .int j => some (.int (i + j))
  | .str a, .str b => if a.length + b.length ≤ sizeLine then some (.str (a ++ b)) else none
  | .tup xs, .tup ys => if xs.length + ys.length ≤ sizeLine then some (.tup (xs ++ ys)) else none
  | .lst xs, .lst ys => if xs.length + ys.length ≤ sizeLine then some (.lst (xs ++ ys)) else none
  | _, _ => none
/-- two lists -/
def addLD : D → D → Option D := fun x y => match x, y with
  | .lst xs, .lst ys => if xs.length + ys.length ≤ sizeLine then some (.lst (xs ++ ys)) else none
  | _, _ => none
theorem of_addL : Op2F addV addLD := fun s F mem n x y dx dy wd v v' => by
  unfold addLD
  cases dx with
  | lst xs =>
    cases dy with
    | lst ys =>
      obtain ⟨p, ws, rfl, e1, v1⟩ := v.lst
      obtain ⟨q, us, rfl, e2, v2⟩ := v'.lst
      dsimp only
      by_cases hz : xs.length + ys.length ≤ sizeLine
      · rw [if_pos hz]
        unfold addV
        dsimp only
        rw [listAt_of e1, listAt_of e2]
        dsimp only
        rw [if_pos (by rw [v1.length, v2.length]; exact hz)]
        obtain ⟨h1, h2, h3⟩ := vws_new wd (v1.append v2) (Nat.le_refl _)
        exact ⟨_, _, F, rfl, h1, h2, h3⟩
      · rw [if_neg hz]; trivial
    | _ => trivial
  | _ => cases dy <;> trivial
theorem os_add : Op2S addV addD := fun s F mem n x y dx dy wd v v' => by
  cases dx with
  | lst xs =>
    cases dy with
    | lst ys => exact of_addL.s s F mem n x y _ _ wd v v'
    | _ => trivial
  | int i =>
    cases dy with
    | int j => rw [v.int, v'.int]; exact .ret wd (.int _)
    | _ => trivial
  | str a =>
    cases dy with
    | str c =>
      rw [v.str, v'.str]
      unfold addD addV
      dsimp only
      by_cases hz : a.length + c.length ≤ sizeLine
      · rw [if_pos hz, if_pos hz]; exact .ret wd (.str _)
      · rw [if_neg hz, if_neg hz]; trivial
    | _ => trivial
  | tup xs =>
    cases dy with
    | tup ys =>
      obtain ⟨ws, rfl, v1⟩ := v.tup
      obtain ⟨us, rfl, v2⟩ := v'.tup
      unfold addD addV
      dsimp only
      by_cases hz : xs.length + ys.length ≤ sizeLine
      · rw [if_pos hz, if_pos (by rw [v1.length, v2.length]; exact hz)]; exact .ret wd (.tup (v1.append v2))
      · rw [if_neg hz]; trivial
    | _ => trivial
  | _ => cases dy <;> trivial
def toP : Nat → D → Option PyData
  | 0, _ => none
  | n + 1, d => match d with
    | .non => some .none
    | .bl b => some (.bool b)
    | .int i => some (.int i)
    | .str x => some (.str x)
    | .tup xs => (xs.mapM (toP n)).map .tuple
    | .lst xs => (xs.mapM (toP n)).map .list
    | _ => none
theorem vws_toN {s : Nat} {F : Fz} {mem : Mem} {n : Nat} (ih : ∀ (w : W) (d : D) (e : PyData), VwO s F mem w d → toP n d = some e → toN mem n w = some e) : ∀ {ws : List W} {ds : List D} {es : List PyData}, Vws s F mem ws ds → ds.mapM (toP n) = some es → ws.mapM (toN mem n) = some es
  | _, _, es, .nil, e => e
  | _, _, es, .cons v t, e => by
    obtain ⟨d, r, h1, h2, rfl⟩ := mapM_cons_some e
    rw [List.mapM_cons, ih _ _ _ (.inl v) h1, vws_toN ih t h2]
    rfl
theorem vwo_toN {s : Nat} {F : Fz} {mem : Mem} : ∀ (n : Nat) (w : W) (d : D) (e : PyData), VwO s F mem w d → toP n d = some e → toN mem n w = some e := by
  intro n
  induction n with
  | zero => intro w d e v h; cases h
  | succ n ih =>
    intro w d e v h
    cases d with
    | non => rw [v.non]; exact h
    | bl b => rw [v.bl]; exact h
    | int b => rw [v.int]; exact h
    | str b => rw [v.str]; exact h
    | tup xs =>
      obtain ⟨ws, rfl, v1⟩ := v.tup
      unfold toP at h
      dsimp only at h
      cases h1 : xs.mapM (toP n) with
      | none => rw [h1] at h; cases h
      | some es =>
        rw [h1] at h
        unfold toN
        dsimp only
        rw [vws_toN ih v1 h1]
        exact h
    | lst xs =>
      obtain ⟨p, ws, rfl, e1, v1⟩ := v.lst
      unfold toP at h
      dsimp only at h
      cases h1 : xs.mapM (toP n) with
      | none => rw [h1] at h; cases h
      | some es =>
        rw [h1] at h
        unfold toN
        dsimp only
        rw [listAt_of e1]
        dsimp only [Option.bind]
        rw [vws_toN ih v1 h1]
        exact h
    | _ => cases h
def eqvD (x y : D) : Option Bool := match toP 65 x, toP 65 y with
  | some d, some e => if (SeqAt.shaped d && SeqAt.shaped e) = true then some (PyData.eqv d e) else none
  | _, _ => none
def eqD : D → D → Option D := fun x y => (eqvD x y).map .bl
def neD : D → D → Option D := fun x y => (eqvD x y).map fun b => .bl (!b)
theorem eqvD_M {s : Nat} {F : Fz} {mem : Mem} {x y : W} {dx dy : D} {b : Bool} (v : VwO s F mem x dx) (v' : VwO s F mem y dy) (h : eqvD dx dy = some b) : eqvM mem x y = some b := by
  unfold eqvD at h
  cases h1 : toP 65 dx with
  | none => rw [h1] at h; cases h
  | some d =>
    cases h2 : toP 65 dy with
    | none => rw [h1, h2] at h; cases h
    | some e =>
      rw [h1, h2] at h
      unfold eqvM
      rw [show toM mem x = some d from vwo_toN 65 x dx d v h1, show toM mem y = some e from vwo_toN 65 y dy e v' h2]
      exact h
theorem os_eq : Op2S eqV eqD := op2_of fun s F mem x y dx dy d v v' e => by
  unfold eqD at e
  cases h : eqvD dx dy with
  | none => rw [h] at e; cases e
  | some b => rw [h] at e; cases e; exact ⟨.bl b, by unfold eqV; rw [eqvD_M v v' h]; rfl, .bl b⟩
theorem os_ne : Op2S neV neD := op2_of fun s F mem x y dx dy d v v' e => by
  unfold neD at e
  cases h : eqvD dx dy with
  | none => rw [h] at e; cases e
  | some b => rw [h] at e; cases e; exact ⟨.bl (!b), by unfold neV; rw [eqvD_M v v' h]; rfl, .bl _⟩
def nonD : D → Bool
  | .non => true
  | _ => false
def isD : D → D → Option D := fun x y => match y with
  | .non => some (.bl (nonD x))
  | _ => none
theorem VwO.none_iff {s : Nat} {F : Fz} {mem : Mem} {x : W} {d : D} (v : VwO s F mem x d) : isNone x = nonD d := by
  rcases v with v | ⟨n, c, rfl, _, _, v⟩
  · cases v with
    | loc _ _ v => cases v <;> rfl
    | _ => rfl
  · cases v <;> rfl
theorem os_is : Op2S isV isD := op2_of fun s F mem x y dx dy d v v' e => by
  cases dy with
  | non => cases e; rw [v'.non]; exact ⟨.bl (isNone x), rfl, by rw [v.none_iff]; exact .bl _⟩
  | _ => cases e
theorem atI_vws {s : Nat} {F : Fz} {mem : Mem} {ws : List W} {ds : List D} {i : Int} {d : D} (v : Vws s F mem ws ds) (h : atI ds i = some d) : ∃ w, atI ws i = some w ∧ Vw s F mem w d := by
  unfold atI at h ⊢
  rw [v.length]
  cases e : ixN ds.length i with
  | none => rw [e] at h; cases h
  | some j => rw [e] at h; exact v.get h
def ixD : D → D → Option D := fun x y => match x, y with
  | .str z, .int i => if z.length ≤ sizeLine then (atI z.cps.toList i).map fun c => (.str ⟨#[c]⟩) else none
  | .tup xs, .int i => atI xs i
  | .lst xs, .int i => atI xs i
  | _, _ => none
theorem os_ix : Op2S ixV ixD := op2_of fun s F mem x y dx dy d v v' e => by
  unfold ixD at e
  split at e
  · rename_i z i
    rw [v.str, v'.int]
    by_cases hz : z.length ≤ sizeLine
    · rw [if_pos hz] at e
      cases h : atI z.cps.toList i with
      | none => rw [h] at e; cases e
      | some c => rw [h] at e; cases e; exact ⟨_, by unfold ixV; dsimp only; rw [if_pos hz, h]; rfl, .str _⟩
    · rw [if_neg hz] at e; cases e
  · rename_i xs i
    obtain ⟨ws, rfl, vs⟩ := v.tup
    rw [v'.int]
    obtain ⟨w, h1, h2⟩ := atI_vws vs e
    exact ⟨w, by unfold ixV; dsimp only; rw [h1]; rfl, h2⟩
  · rename_i xs i
    obtain ⟨p, ws, rfl, e1, vs⟩ := v.lst
    rw [v'.int]
    obtain ⟨w, h1, h2⟩ := atI_vws vs e
    exact ⟨w, by unfold ixV; dsimp only; rw [listAt_of e1]; dsimp only [Option.bind]; rw [h1]; rfl, h2⟩
  · cases e
theorem VwOs.one {s : Nat} {F : Fz} {mem : Mem} {xs : List W} {d : D} (v : VwOs s F mem xs [d]) : ∃ w, xs = [w] ∧ VwO s F mem w d := by
  cases v with
  | cons r t => cases t; exact ⟨_, rfl, r⟩
theorem VwOs.two {s : Nat} {F : Fz} {mem : Mem} {xs : List W} {d e : D} (v : VwOs s F mem xs [d, e]) : ∃ w u, xs = [w, u] ∧ VwO s F mem w d ∧ VwO s F mem u e := by
  cases v with
  | cons r t => obtain ⟨u, rfl, q⟩ := VwOs.one t; exact ⟨_, _, rfl, r, q⟩
def lenD : List D → Option D := fun ds => match ds with
  | [.str z] => if z.length ≤ sizeLine then some (.int z.length) else none
  | [.tup xs] => some (.int xs.length)
  | [.lst xs] => some (.int xs.length)
  | _ => none
theorem os_len : OpNS lenV lenD := opN_of fun s F mem xs ds d v e => by
  unfold lenD at e
  split at e
  · rename_i z
    obtain ⟨w, e0, q⟩ := v.one
    subst e0
    clear v
    have v := q
    rw [v.str]
    by_cases hz : z.length ≤ sizeLine
    · rw [if_pos hz] at e; cases e; exact ⟨_, by unfold lenV; dsimp only; rw [if_pos hz], .int _⟩
    · rw [if_neg hz] at e; cases e
  · rename_i xs
    obtain ⟨w, e0, q⟩ := v.one
    subst e0
    clear v
    have v := q
    obtain ⟨ws, rfl, vs⟩ := v.tup
    cases e
    exact ⟨_, rfl, by rw [vs.length]; exact .int _⟩
  · rename_i xs
    obtain ⟨w, e0, q⟩ := v.one
    subst e0
    clear v
    have v := q
    obtain ⟨p, ws, rfl, e1, vs⟩ := v.lst
    cases e
    exact ⟨.int ws.length, by unfold lenV; dsimp only; rw [listAt_of e1]; rfl, by rw [vs.length]; exact .int _⟩
  · cases e
def tyD : D → Option String
  | .non => some "NoneType" | .bl _ => some "bool" | .int _ => some "int" | .str _ => some "str" | .tup _ => some "tuple" | .lst _ => some "list" | .dK _ => some "dict"
  | _ => none
theorem VwO.tyN {s : Nat} {F : Fz} {mem : Mem} {x : W} {d : D} {a : String} (v : VwO s F mem x d) (h : tyD d = some a) : tyName mem x = some a := by
  rcases v with v | ⟨n, c, rfl, _, e, v⟩
  · cases v with
    | loc _ e v => cases v <;> first | (unfold tyName; dsimp only; rw [e]; exact h) | cases h
    | locF _ _ _ => cases h
    | locT _ _ _ => cases h
    | spt => cases h
    | _ => exact h
  · cases v <;> first | (unfold tyName; dsimp only; rw [e]; exact h) | cases h
def isiD : List D → Option D := fun ds => match ds with
  | [x, .ty n] => (tyD x).bind fun a => (kind a n).map .bl
  | [x, .tup [.ty n, .ty m]] => (tyD x).bind fun a => (kind a n).bind fun b => (kind a m).map fun c => .bl (b || c)
  | _ => none
theorem os_isi : OpNS isiV isiD := opN_of fun s F mem xs ds d v e => by
  unfold isiD at e
  split at e
  · rename_i x n
    obtain ⟨w, u, rfl, v1, v2⟩ := v.two
    rw [v2.ty]
    cases ht : tyD x with
    | none => rw [ht] at e; cases e
    | some a =>
      rw [ht] at e
      dsimp only [Option.bind] at e
      cases hk : kind a n with
      | none => rw [hk] at e; cases e
      | some b => rw [hk] at e; cases e; exact ⟨.bl b, by unfold isiV; dsimp only; rw [v1.tyN ht]; dsimp only [Option.bind]; rw [hk]; rfl, .bl b⟩
  · rename_i x n m
    obtain ⟨w, u, rfl, v1, v2⟩ := v.two
    obtain ⟨ws, rfl, vs⟩ := v2.tup
    cases vs with
    | cons q1 vs => cases vs with
      | cons q2 vs =>
        cases vs
        rw [VwO.ty (.inl q1), VwO.ty (.inl q2)]
        cases ht : tyD x with
        | none => rw [ht] at e; cases e
        | some a =>
          rw [ht] at e
          dsimp only [Option.bind] at e
          cases hk : kind a n with
          | none => rw [hk] at e; cases e
          | some b =>
            rw [hk] at e
            dsimp only at e
            cases hk2 : kind a m with
            | none => rw [hk2] at e; cases e
            | some c => rw [hk2] at e; cases e; exact ⟨.bl (b || c), by unfold isiV; dsimp only; rw [v1.tyN ht]; dsimp only [Option.bind]; rw [hk]; dsimp only; rw [hk2]; rfl, .bl _⟩
  · cases e
def cutD (xs : List D) (lo hi : Option Int) : List D := (xs.drop (HT.sIx xs.length 0 lo)).take (HT.sIx xs.length xs.length hi - HT.sIx xs.length 0 lo)
def slD (lo hi : Option Int) : D → Option D := fun x => match x with
  | .tup xs => some (.tup (cutD xs lo hi))
  | .lst xs => some (.lst (cutD xs lo hi))
  | .str z => if z.length ≤ sizeLine then some (.str (cutS z lo hi)) else none
  | _ => none
def poptE : Option PE → PEnv → PM (Option Int)
  | none => fun _ => PM.pure none
  | some m => fun pe => PM.bind (m pe) fun d => match d with
    | .int i => PM.pure (some i)
    | _ => fun _ => .bad
def psl (a : PE) (lo hi : Option PE) : PE := fun pe => PM.bind (a pe) fun x => PM.bind (poptE lo pe) fun l => PM.bind (poptE hi pe) fun h => pl (slD l h x)
def plr (a : PE) : PE := fun pe => PM.bind (a pe) fun d => match d with
  | .int n => if 0 ≤ n ∧ n ≤ 16777216 then PM.pure (.lst (rgD 0 n.toNat)) else fun _ => .bad
  | _ => fun _ => .bad
/-- what a method does to the list in the slot i, from its arguments -/
def pmut (i : Nat) (f : List D → List D → Option (List D)) (as : PA) : PS := fun pe n => match pe[i]? with
  | some (.O (.lst xs)) => pofE as (fun ds pe n => match f xs ds with
    | some ys => .nx (pe.set i (.O (.lst ys))) n
    | none => .bad) pe n
  | _ => .bad
end Sh
set_option linter.all false
set_option maxRecDepth 100000
set_option maxHeartbeats 4000000
namespace Sh
open PySem PySem.Spec PyProof.Rows L2
def praise (C : Addr) (as : PA) : PS := pofE as fun ds pe n => match ds with
  | [d] => .ex ⟨C, some [("at", d)]⟩ pe n
  | _ => .bad
def pisS : D → Bool
  | .str _ => true
  | _ => false
def pstrM (g : D → D → Option D) (a c : PE) : PE := fun pe => PM.bind (a pe) fun x => if pisS x = true then PM.bind (c pe) fun y => pl (g x y) else fun _ => .bad
def pfsL : List PE → Str → PE
  | [], acc => fun _ n => .ok (.str acc) n
  | p :: ps, acc => fun pe => PM.bind (p pe) fun d => match d with
    | .str y => if (acc ++ y).length ≤ sizeLine then pfsL ps (acc ++ y) pe else fun _ => .bad
    | _ => fun _ => .bad
def enD (k : Nat) : List D → List D
  | [] => []
  | x :: xs => .tup [.int (k : Int), x] :: enD (k + 1) xs
def penum (as : PA) : PI := fun pe => PM.bind (as pe) fun ds => match ds with
  | [d] => match itemsD d with
    | some xs => PM.pure (enD 0 xs)
    | none => fun _ => .bad
  | _ => fun _ => .bad
def zipD : List D → List D → List D
  | x :: xs, y :: ys => .tup [x, y] :: zipD xs ys
  | _, _ => []
def pzip (as : PA) : PI := fun pe => PM.bind (as pe) fun ds => match ds with
  | [d, e] => match itemsD d, itemsD e with
    | some xs, some ys => PM.pure (zipD xs ys)
    | _, _ => fun _ => .bad
  | _ => fun _ => .bad
def truD : D → Option Bool
  | .non => some false
  | .bl b => some b
  | .int i => some (i != 0)
  | .str y => if y.length ≤ sizeLine then some ((y.length : Int) != 0) else none
  | .tup xs => some (!xs.isEmpty)
  | .lst xs => some (!xs.isEmpty)
  | _ => none
def ptrB (a : PE) : PB := fun pe => PM.bind (a pe) fun d n => match truD d with
  | some b => .ok b n
  | none => .bad
end Sh
set_option linter.all false
set_option maxRecDepth 100000
set_option maxHeartbeats 4000000
namespace Sh
open PySem PySem.Spec PyProof.Rows L2
def intDI : D → Option Int
  | .int i => some i
  | _ => none
/-- the law: its numbers, the place of the draws, then the rest -/
theorem law_of {k : Nat} {Fn0 : Fn} {rest : SS} {q : PS} (hs : SimS rest q) (ns : List Int)
    (hnum : ∃ (row : List Int) (m : Mem) (r : Nat), 0 < row.length ∧ Fn0 [.rol (ns.map W.int)] [] = .ok (.loc r) m ∧ m[r]? = some (.lst (row.map W.int)))
    (hq : ∀ row : List Int, 0 < row.length → ∃ n', q (.no :: .C (.lst (row.map D.int)) :: .C .spt :: List.replicate k .no) 0 = .rt (.bl true) n') :
    ∃ m, runB (k + 3) (seqS (setS 1 (callF Fn0 (consA (varE 0) nilA))) (seqS (setS 2 (lstE (consA (cE (.int 0)) nilA))) rest)) [.rol (ns.map W.int)] [] = .ok (.bl true) m := by
  obtain ⟨row, m, r, hp, e1, e2⟩ := hnum
  obtain ⟨n', hq⟩ := hq row hp
  have hr : r < m.length := (List.getElem?_eq_some_iff.mp e2).1
  have hz : (1 : Nat) ≤ sizeLine := by rw [sizeLine_eq]; omega
  have h := hs m.length m.length (fun i => i = r) (m ++ [.lst [.int 0]]) 0 (some (.rol (ns.map W.int)) :: some (.loc r) :: some (.loc m.length) :: List.replicate k none) (.no :: .C (.lst (row.map D.int)) :: .C .spt :: List.replicate k .no)
    (by rw [List.length_append]; omega) ⟨by rw [List.getElem?_append_right (Nat.le_refl _), Nat.sub_self]; rfl, fun e => by omega, fun i e => by subst e; rw [List.length_append]; omega⟩ ⟨by simp, fun i d hi => ?_, fun i d hi => ?_, fun i j d e n _ hi => ?_⟩
  · rw [hq] at h
    obtain ⟨w, m', F', e3, _, _, v⟩ := h
    have hw := VwO.bl (.inl v)
    subst hw
    refine ⟨m', ?_⟩
    have e4 : startE (k + 3) [W.rol (ns.map W.int)] = some (.rol (ns.map W.int)) :: none :: none :: List.replicate k none := by
      unfold startE
      rw [List.length_singleton, show k + 3 - 1 = k + 1 + 1 from by omega, List.replicate_succ, List.replicate_succ]
      rfl
    unfold runB
    rw [e4]
    have e5 : seqS (setS 1 (callF Fn0 (consA (varE 0) nilA))) (seqS (setS 2 (lstE (consA (cE (.int 0)) nilA))) rest) (some (.rol (ns.map W.int)) :: none :: none :: List.replicate k none) [] = rest (some (.rol (ns.map W.int)) :: some (.loc r) :: some (.loc m.length) :: List.replicate k none) (m ++ [.lst [.int 0]]) := by
      simp [seqS, setS, ofE, callF, consA, nilA, SM.bind, SM.pure, varE, e1, lstE, cE, hz]
    rw [e5, e3]
  · match i, hi with
    | 0, hi => cases hi
    | 1, hi =>
      cases hi
      refine ⟨_, rfl, .loc rfl (c := .lst (row.map W.int)) ?_ (.lst (Vws.ints row))⟩
      rw [List.getElem?_append_left hr]
      exact e2
    | 2, hi => cases hi; exact ⟨_, rfl, .spt⟩
    | i + 3, hi =>
      have : (List.replicate k Sl.no)[i]? = some (.C d) := hi
      rw [List.getElem?_replicate] at this
      split at this <;> cases this
  · match i, hi with
    | 0, hi => cases hi
    | 1, hi => cases hi
    | 2, hi => cases hi
    | i + 3, hi =>
      have : (List.replicate k Sl.no)[i]? = some (.O d) := hi
      rw [List.getElem?_replicate] at this
      split at this <;> cases this
  · match i, hi with
    | 0, hi => cases hi
    | 1, hi => cases hi
    | 2, hi => cases hi
    | i + 3, hi =>
      have : (List.replicate k Sl.no)[i]? = some (.O d) := hi
      rw [List.getElem?_replicate] at this
      split at this <;> cases this
end Sh
set_option linter.all false
set_option maxRecDepth 100000
set_option maxHeartbeats 4000000
set_option linter.all false
set_option maxRecDepth 100000
set_option maxHeartbeats 4000000
namespace Sh
open PySem PySem.Spec PyProof.Rows L2
def p__law_so (g__law_so : PFn) : PS :=
  (psq (pif (ptB (pbin isD (pvO 1) (pK .non))) (pret (pbin isD (pvO 0) (pK .non))) pnx)
    (psq (pif (ptB (pcallN isiD (pcons (pvO 1) (pcons (pK (.ty "tuple")) pnil)))) (psq (pif (porB (pnotB (ptB (pcallN isiD (pcons (pvO 0) (pcons (pK (.ty "tuple")) pnil))))) (ptB (pbin neD (pcallN lenD (pcons (pvO 0) pnil)) (pcallN lenD (pcons (pvO 1) pnil))))) (pret (pK (.bl false))) pnx)
    (psq (pfor (prng1 (pcons (pcallN lenD (pcons (pvO 1) pnil)) pnil)) (pgN 2) (pif (pnotB (ptB (pcallF g__law_so (pcons (pbin ixD (pvO 0) (pvO 2)) (pcons (pbin ixD (pvO 1) (pvO 2)) pnil))))) (pret (pK (.bl false))) pnx))
    (pret (pK (.bl true))))) pnx)
    (psq (pif (porB (ptB (pcallN isiD (pcons (pvO 1) (pcons (pK (.ty "bool")) pnil)))) (ptB (pcallN isiD (pcons (pvO 0) (pcons (pK (.ty "bool")) pnil))))) (pret (pandV (pcallN isiD (pcons (pvO 1) (pcons (pK (.ty "bool")) pnil))) (pandV (pcallN isiD (pcons (pvO 0) (pcons (pK (.ty "bool")) pnil))) (pbin eqD (pvO 0) (pvO 1))))) pnx)
    (psq (pif (ptB (pcallN isiD (pcons (pvO 1) (pcons (pK (.ty "int")) pnil)))) (pret (pandV (pcallN isiD (pcons (pvO 0) (pcons (pK (.ty "int")) pnil))) (pbin eqD (pvO 0) (pvO 1)))) pnx)
    (pret (pandV (pcallN isiD (pcons (pvO 1) (pcons (pK (.ty "str")) pnil))) (pandV (pcallN isiD (pcons (pvO 0) (pcons (pK (.ty "str")) pnil))) (pbin eqD (pvO 0) (pvO 1)))))))))
theorem sim__law_so {f__law_so : Fn} {g__law_so : PFn} (s__law_so : SimFn f__law_so g__law_so) : SimS (b__law_so f__law_so) (p__law_so g__law_so) :=
  (ss_sq (ss_if0 (sb_tB (SimE.o (sm_bin os_is (sm_vO (i := 1)) (SimE.o sm_non)))) (ss_ret0 (sm_bin os_is (sm_vO (i := 0)) (SimE.o sm_non))) ss_nx)
    (ss_sq (ss_if0 (sb_tB (SimE.o (sm_callN os_isi (so_cons0 (sm_vO (i := 1)) (so_cons0 (SimE.o sm_ty) so_nil0))))) (ss_sq (ss_if0 (sb_or0 (sb_not0 (sb_tB (SimE.o (sm_callN os_isi (so_cons0 (sm_vO (i := 0)) (so_cons0 (SimE.o sm_ty) so_nil0)))))) (sb_tB (SimE.o (sm_bin os_ne (SimE.o (sm_callN os_len (so_cons0 (sm_vO (i := 0)) so_nil0))) (SimE.o (sm_callN os_len (so_cons0 (sm_vO (i := 1)) so_nil0))))))) (ss_ret0 sm_bl) ss_nx)
    (ss_sq (ss_for0 (si_rng1 (sa_cons0 (sm_callN os_len (so_cons0 (sm_vO (i := 1)) so_nil0)) sa_nil0)) (gc_name (i := 2)) (ss_if0 (sb_not0 (sb_tB (SimE.o (sm_callF s__law_so (sa_cons0 (sm_bin os_ix (sm_vO (i := 0)) (sm_vO (i := 2))) (sa_cons0 (sm_bin os_ix (sm_vO (i := 1)) (sm_vO (i := 2))) sa_nil0)))))) (ss_ret0 sm_bl) ss_nx))
    (ss_ret0 sm_bl))) ss_nx)
    (ss_sq (ss_if0 (sb_or0 (sb_tB (SimE.o (sm_callN os_isi (so_cons0 (sm_vO (i := 1)) (so_cons0 (SimE.o sm_ty) so_nil0))))) (sb_tB (SimE.o (sm_callN os_isi (so_cons0 (sm_vO (i := 0)) (so_cons0 (SimE.o sm_ty) so_nil0)))))) (ss_ret0 (sm_and (SimE.o (sm_callN os_isi (so_cons0 (sm_vO (i := 1)) (so_cons0 (SimE.o sm_ty) so_nil0)))) (sm_and (SimE.o (sm_callN os_isi (so_cons0 (sm_vO (i := 0)) (so_cons0 (SimE.o sm_ty) so_nil0)))) (sm_bin os_eq (sm_vO (i := 0)) (sm_vO (i := 1)))))) ss_nx)
    (ss_sq (ss_if0 (sb_tB (SimE.o (sm_callN os_isi (so_cons0 (sm_vO (i := 1)) (so_cons0 (SimE.o sm_ty) so_nil0))))) (ss_ret0 (sm_and (SimE.o (sm_callN os_isi (so_cons0 (sm_vO (i := 0)) (so_cons0 (SimE.o sm_ty) so_nil0)))) (sm_bin os_eq (sm_vO (i := 0)) (sm_vO (i := 1))))) ss_nx)
    (ss_ret0 (sm_and (SimE.o (sm_callN os_isi (so_cons0 (sm_vO (i := 1)) (so_cons0 (SimE.o sm_ty) so_nil0)))) (sm_and (SimE.o (sm_callN os_isi (so_cons0 (sm_vO (i := 0)) (so_cons0 (SimE.o sm_ty) so_nil0)))) (sm_bin os_eq (sm_vO (i := 0)) (sm_vO (i := 1))))))))))
end Sh
set_option linter.all false
set_option maxRecDepth 100000
set_option maxHeartbeats 4000000
set_option linter.all false
set_option maxRecDepth 100000
set_option maxHeartbeats 4000000
set_option linter.all false
set_option maxRecDepth 100000
set_option maxHeartbeats 4000000
set_option linter.all false
set_option maxRecDepth 100000
set_option maxHeartbeats 4000000
namespace Sh
open PySem PySem.Spec PyProof.Rows L2
def noOs (pe : PEnv) : Prop := ∀ (i : Nat) (d : D), pe[i]? ≠ some (.O d)
section
variable {s b : Nat} {F F' : Fz} {mem mem' : Mem} {env : VEnv} {pe : PEnv}
theorem EnvR.frz (r : EnvR s b F mem env pe) (h : noOs pe) (f : Fr F mem F' mem') : EnvR s b F' mem' env pe where
  len := r.len
  cl := fun i d h => let ⟨w, h1, h2⟩ := r.cl i d h; ⟨w, h1, h2.mono f⟩
  op := fun i d e => absurd e (h i d)
  dis := fun i j d e n hij q => absurd q (h i d)
end
end Sh
set_option linter.all false
set_option maxRecDepth 100000
set_option maxHeartbeats 4000000
set_option linter.all false
set_option maxRecDepth 100000
set_option maxHeartbeats 4000000
set_option linter.all false
set_option maxRecDepth 100000
set_option maxHeartbeats 4000000
set_option linter.all false
set_option maxRecDepth 100000
set_option maxHeartbeats 4000000
set_option linter.all false
set_option maxRecDepth 100000
set_option maxHeartbeats 4000000
set_option linter.all false
set_option maxRecDepth 100000
set_option maxHeartbeats 4000000
set_option linter.all false
set_option maxRecDepth 100000
set_option maxHeartbeats 4000000
set_option linter.all false
set_option maxRecDepth 100000
set_option maxHeartbeats 4000000
set_option linter.all false
set_option maxRecDepth 100000
set_option maxHeartbeats 4000000
set_option linter.all false
set_option maxRecDepth 100000
set_option maxHeartbeats 4000000
set_option linter.all false
set_option maxRecDepth 100000
set_option maxHeartbeats 4000000
set_option linter.all false
set_option maxRecDepth 100000
set_option maxHeartbeats 4000000
set_option linter.all false
set_option maxRecDepth 100000
set_option maxHeartbeats 4000000
namespace Sh
open PySem PySem.Spec PyProof.Rows L2
theorem sm_ob {a : Addr} : SimE (cE (.ob a)) (pK (.ob a)) := fun s b F mem n env pe hb wd er => ⟨_, mem, F, rfl, Sp.refl, wd, .ob a⟩
def pmkx (C : Addr) (f : Str) (as : PA) : PE := fun pe => PM.bind (as pe) fun ds => fun n => match ds with
  | [d] => .ok (.ex1 C f d) n
  | _ => .bad
theorem sm_mkx {C : Addr} {f : Str} {as : AM} {ps : PA} (h : SimA as ps) : SimE (mkxE C f as) (pmkx C f ps) := fun s b F mem n env pe hb wd er =>
  RelR.bind (f := fun ws => fun m => match ws with | [w] => .ok (W.ex1 C f w) m | _ => .bad) (h s b F mem n env pe hb wd er) fun w d m1 F1 n1 sp1 wd1 v1 => by
    cases v1 with
    | nil => trivial
    | cons v t =>
      cases t with
      | nil => exact ⟨_, m1, F1, rfl, Sp.refl, wd1, .ex1 v⟩
      | cons _ _ => trivial
def pmk0 (C : Addr) : PE := fun _ n => .ok (.ex0 C) n
theorem sm_mk0 {C : Addr} : SimE (mk0E C) (pmk0 C) := fun s b F mem n env pe hb wd er => ⟨_, mem, F, rfl, Sp.refl, wd, .ex0 C⟩
def pattrX (Cs : List Addr) (f : Str) (p : PE) : PE := fun pe => PM.bind (p pe) fun d => fun n => match d with
  | .ex1 C g v => if C ∈ Cs ∧ g = f then .ok v n else .bad
  | _ => .bad
theorem sm_attrX {Cs : List Addr} {f : Str} {m : EM} {p : PE} (h : SimE m p) : SimE (attrXE Cs f m) (pattrX Cs f p) := fun s b F mem n env pe hb wd er =>
  RelR.bind (f := fun w => fun mem => match w with | .ex1 C g v => if C ∈ Cs ∧ g = f then .ok v mem else .bad | _ => .bad) (h s b F mem n env pe hb wd er) fun w d m1 F1 n1 sp1 wd1 v1 => by
    cases d with
    | ex1 C g d =>
      cases v1 with
      | ex1 v =>
        dsimp only
        by_cases hc : C ∈ Cs ∧ g = f
        · rw [if_pos hc, if_pos hc]
          exact ⟨_, m1, F1, rfl, Sp.refl, wd1, v⟩
        · rw [if_neg hc, if_neg hc]
          trivial
      | loc _ _ c => cases c
    | _ => trivial
def xtabD (B : Addr) (Cs : List Addr) : Addr → D → Option Bool := fun C c => if C ∈ Cs then (match c with
  | .ob D => if D = B then some true else if D ∈ Cs then some (decide (C = D)) else none
  | .ty n => if n = "Exception" then some true else if n ∈ foreigns then some false else none
  | _ => none) else none
def isxD (B : Addr) (Cs : List Addr) : List D → Option D := fun ds => match ds with
  | [.ex0 C, c] => (xtabD B Cs C c).map D.bl
  | [.ex1 C _ _, c] => (xtabD B Cs C c).map D.bl
  | _ => none
theorem xtabD_to {B : Addr} {Cs : List Addr} {C : Addr} {s : Nat} {F : Fz} {mem : Mem} {w : W} {c : D} {b : Bool} (v : VwO s F mem w c) (h : xtabD B Cs C c = some b) : xtab B Cs C w = some b := by
  unfold xtabD at h
  unfold xtab
  by_cases hC : C ∈ Cs
  · rw [if_pos hC] at h ⊢
    cases c with
    | ob D =>
      rcases v with v | ⟨k, c, _, _, _, v⟩
      · cases v with
        | ob => exact h
        | loc _ _ c => cases c
      · cases v
    | ty n =>
      rcases v with v | ⟨k, c, _, _, _, v⟩
      · cases v with
        | ty => exact h
        | loc _ _ c => cases c
      · cases v
    | _ => cases h
  · rw [if_neg hC] at h; cases h
theorem os_isx {B : Addr} {Cs : List Addr} : OpNS (isxV (xtab B Cs)) (isxD B Cs) := opN_of fun s F mem xs ds d v e => by
  unfold isxD at e
  split at e
  · rename_i C c
    cases hb : xtabD B Cs C c with
    | none => rw [hb] at e; cases e
    | some b =>
      rw [hb] at e
      cases e
      cases v with
      | cons v1 v2 =>
        cases v2 with
        | cons v2 v3 =>
          cases v3
          rcases v1 with v1 | ⟨k, c, _, _, _, v1⟩
          · cases v1 with
            | ex0 => exact ⟨.bl b, by unfold isxV; dsimp only; rw [xtabD_to v2 hb]; rfl, .bl b⟩
            | loc _ _ c => cases c
          · cases v1
  · rename_i C f w c
    cases hb : xtabD B Cs C c with
    | none => rw [hb] at e; cases e
    | some b =>
      rw [hb] at e
      cases e
      cases v with
      | cons v1 v2 =>
        cases v2 with
        | cons v2 v3 =>
          cases v3
          rcases v1 with v1 | ⟨k, c, _, _, _, v1⟩
          · cases v1 with
            | ex1 v1 => exact ⟨.bl b, by unfold isxV; dsimp only; rw [xtabD_to v2 hb]; rfl, .bl b⟩
            | loc _ _ c => cases c
          · cases v1
  · cases e
def praiseX (C : Addr) (f : Str) (as : PA) : PS := pofE as fun ds pe n => match ds with
  | [d] => .ex ⟨C, some [(f, d)]⟩ pe n
  | _ => .bad
theorem ss_raiseX0 {C : Addr} {f : Str} {as : AM} {ps : PA} (h : SimA as ps) : SimS (raiseXS C f as) (praiseX C f ps) := sim_ofE (V := fun s _ => Vws s) h fun s b b0 F mem n env pe w d _ hb wd er _ v => by
  cases v with
  | nil => trivial
  | cons v t =>
    cases t with
    | nil => exact ⟨_, env, mem, F, rfl, Sp.refl, wd, ⟨rfl, rfl, .cons v .nil⟩, er⟩
    | cons _ _ => trivial
def praise0 (C : Addr) : PS := fun pe n => .ex ⟨C, none⟩ pe n
theorem ss_rz0 {C : Addr} : SimS (raise0S C) (praise0 C) := fun s b F mem n env pe hb wd er => ⟨_, env, mem, F, rfl, Sp.refl, wd, ⟨rfl, trivial⟩, er⟩
def ptryIs (B : Addr) (Cs : List Addr) (i : Nat) (D0 : Addr) (q : PS) : PS := fun pe n => match q pe n with
  | .ex x e n => if i < e.length then (match xtabD B Cs x.cls (.ob D0) with
      | some b => .rt (.bl b) n
      | none => .bad) else .bad
  | .nx e n => .nx e n
  | .rt d n => .rt d n
  | .bk e n => .bk e n
  | .ct e n => .ct e n
  | .bad => .bad
theorem ss_tryIs0 {B : Addr} {Cs : List Addr} {i : Nat} {D0 : Addr} {u : SS} {q : PS} (h : SimS u q) : SimS (tryIsS (xtab B Cs) i (.ob D0) u) (ptryIs B Cs i D0 q) := fun s b F mem n env pe hb wd er => by
  have h1 := h s b F mem n env pe hb wd er
  unfold tryIsS ptryIs
  revert h1
  cases q pe n with
  | bad => exact fun _ => trivial
  | nx e k => rintro ⟨e', m', F', e1, hh⟩; rw [e1]; exact ⟨e', m', F', rfl, hh⟩
  | bk e k => rintro ⟨e', m', F', e1, hh⟩; rw [e1]; exact ⟨e', m', F', rfl, hh⟩
  | ct e k => rintro ⟨e', m', F', e1, hh⟩; rw [e1]; exact ⟨e', m', F', rfl, hh⟩
  | rt d k => rintro ⟨e', m', F', e1, hh⟩; rw [e1]; exact ⟨e', m', F', rfl, hh⟩
  | ex x e k =>
    rintro ⟨y, e', m', F', e1, sp, wd', vx, er'⟩
    rw [e1]
    dsimp only
    obtain ⟨hc, vx⟩ := vx
    by_cases hi : i < e.length
    · rw [if_pos hi, if_pos (by rw [er'.len]; exact hi)]
      cases hb : xtabD B Cs x.cls (.ob D0) with
      | none => trivial
      | some b0 =>
        have : xtab B Cs y.cls (.ob D0) = some b0 := by
          rw [hc]
          exact hb
        rw [this]
        exact ⟨_, m', F', rfl, sp, wd', .bl b0⟩
    · rw [if_neg hi]; trivial
end Sh
set_option linter.all false
set_option maxRecDepth 100000
set_option maxHeartbeats 4000000
namespace Sh
open PySem PySem.Spec PyProof.Rows L2
def p__law_caught (C_PullError : Addr) (C_BadValue : Addr) (C_BadText : Addr) (C_BadGrounds : Addr) (C_NoPort : Addr) (C_NoName : Addr) (C_NoDriver : Addr) (C_NotNow : Addr) (C_TooMany : Addr) : PS :=
  (ptryIs C_PullError [C_BadValue, C_BadText, C_BadGrounds, C_NoPort, C_NoName, C_NoDriver, C_NotNow, C_TooMany] 1 C_NoName (psq (pif (ptB (pbin eqD (pvO 0) (pK (.int 0)))) (praise0 C_TooMany) pnx)
    (praiseX C_NoName "name" (pcons (pvC 0) pnil))))
theorem sim__law_caught {C_PullError : Addr} {C_BadValue : Addr} {C_BadText : Addr} {C_BadGrounds : Addr} {C_NoPort : Addr} {C_NoName : Addr} {C_NoDriver : Addr} {C_NotNow : Addr} {C_TooMany : Addr} : SimS (b__law_caught C_PullError C_BadValue C_BadText C_BadGrounds C_NoPort C_NoName C_NoDriver C_NotNow C_TooMany) (p__law_caught C_PullError C_BadValue C_BadText C_BadGrounds C_NoPort C_NoName C_NoDriver C_NotNow C_TooMany) :=
  (ss_tryIs0 (B := C_PullError) (Cs := [C_BadValue, C_BadText, C_BadGrounds, C_NoPort, C_NoName, C_NoDriver, C_NotNow, C_TooMany]) (i := 1) (D0 := C_NoName) (ss_sq (ss_if0 (sb_tB (SimE.o (sm_bin os_eq (sm_vO (i := 0)) (SimE.o sm_int)))) ss_rz0 ss_nx)
    (ss_raiseX0 (sa_cons0 (sm_vC (i := 0)) sa_nil0))))
def p__law_foreign (C_PullError : Addr) (C_BadValue : Addr) (C_BadText : Addr) (C_BadGrounds : Addr) (C_NoPort : Addr) (C_NoName : Addr) (C_NoDriver : Addr) (C_NotNow : Addr) (C_TooMany : Addr) : PS :=
  (psq (pif (porB (ptB (pcallN (isxD C_PullError [C_BadValue, C_BadText, C_BadGrounds, C_NoPort, C_NoName, C_NoDriver, C_NotNow, C_TooMany]) (pcons (pvO 0) (pcons (pK (.ty "ValueError")) pnil)))) (ptB (pcallN (isxD C_PullError [C_BadValue, C_BadText, C_BadGrounds, C_NoPort, C_NoName, C_NoDriver, C_NotNow, C_TooMany]) (pcons (pvO 0) (pcons (pK (.ty "LookupError")) pnil))))) (pret (pK (.bl true))) pnx)
    (pret (porV (pcallN (isxD C_PullError [C_BadValue, C_BadText, C_BadGrounds, C_NoPort, C_NoName, C_NoDriver, C_NotNow, C_TooMany]) (pcons (pvO 0) (pcons (pK (.ty "ArithmeticError")) pnil))) (pnotV (pcallN (isxD C_PullError [C_BadValue, C_BadText, C_BadGrounds, C_NoPort, C_NoName, C_NoDriver, C_NotNow, C_TooMany]) (pcons (pvO 0) (pcons (pK (.ty "Exception")) pnil)))))))
theorem sim__law_foreign {C_PullError : Addr} {C_BadValue : Addr} {C_BadText : Addr} {C_BadGrounds : Addr} {C_NoPort : Addr} {C_NoName : Addr} {C_NoDriver : Addr} {C_NotNow : Addr} {C_TooMany : Addr} : SimS (b__law_foreign C_PullError C_BadValue C_BadText C_BadGrounds C_NoPort C_NoName C_NoDriver C_NotNow C_TooMany) (p__law_foreign C_PullError C_BadValue C_BadText C_BadGrounds C_NoPort C_NoName C_NoDriver C_NotNow C_TooMany) :=
  (ss_sq (ss_if0 (sb_or0 (sb_tB (SimE.o (sm_callN os_isx (so_cons0 (sm_vO (i := 0)) (so_cons0 (SimE.o sm_ty) so_nil0))))) (sb_tB (SimE.o (sm_callN os_isx (so_cons0 (sm_vO (i := 0)) (so_cons0 (SimE.o sm_ty) so_nil0)))))) (ss_ret0 sm_bl) ss_nx)
    (ss_ret0 (sm_or (SimE.o (sm_callN os_isx (so_cons0 (sm_vO (i := 0)) (so_cons0 (SimE.o sm_ty) so_nil0)))) (sm_not (SimE.o (sm_callN os_isx (so_cons0 (sm_vO (i := 0)) (so_cons0 (SimE.o sm_ty) so_nil0))))))))
def p__law_of (C_PullError : Addr) (C_BadValue : Addr) (C_BadText : Addr) (C_BadGrounds : Addr) (C_NoPort : Addr) (C_NoName : Addr) (C_NoDriver : Addr) (C_NotNow : Addr) (C_TooMany : Addr) : PS :=
  (psq (pset 1 (plst (pcons (pcallN (isxD C_PullError [C_BadValue, C_BadText, C_BadGrounds, C_NoPort, C_NoName, C_NoDriver, C_NotNow, C_TooMany]) (pcons (pvO 0) (pcons (pK (.ob C_BadValue)) pnil))) (pcons (pcallN (isxD C_PullError [C_BadValue, C_BadText, C_BadGrounds, C_NoPort, C_NoName, C_NoDriver, C_NotNow, C_TooMany]) (pcons (pvO 0) (pcons (pK (.ob C_BadText)) pnil))) (pcons (pcallN (isxD C_PullError [C_BadValue, C_BadText, C_BadGrounds, C_NoPort, C_NoName, C_NoDriver, C_NotNow, C_TooMany]) (pcons (pvO 0) (pcons (pK (.ob C_BadGrounds)) pnil))) (pcons (pcallN (isxD C_PullError [C_BadValue, C_BadText, C_BadGrounds, C_NoPort, C_NoName, C_NoDriver, C_NotNow, C_TooMany]) (pcons (pvO 0) (pcons (pK (.ob C_NoPort)) pnil))) pnil))))))
    (pret (pbin addLD (pvO 1) (plst (pcons (pcallN (isxD C_PullError [C_BadValue, C_BadText, C_BadGrounds, C_NoPort, C_NoName, C_NoDriver, C_NotNow, C_TooMany]) (pcons (pvO 0) (pcons (pK (.ob C_NoName)) pnil))) (pcons (pcallN (isxD C_PullError [C_BadValue, C_BadText, C_BadGrounds, C_NoPort, C_NoName, C_NoDriver, C_NotNow, C_TooMany]) (pcons (pvO 0) (pcons (pK (.ob C_NoDriver)) pnil))) (pcons (pcallN (isxD C_PullError [C_BadValue, C_BadText, C_BadGrounds, C_NoPort, C_NoName, C_NoDriver, C_NotNow, C_TooMany]) (pcons (pvO 0) (pcons (pK (.ob C_NotNow)) pnil))) (pcons (pcallN (isxD C_PullError [C_BadValue, C_BadText, C_BadGrounds, C_NoPort, C_NoName, C_NoDriver, C_NotNow, C_TooMany]) (pcons (pvO 0) (pcons (pK (.ob C_TooMany)) pnil))) pnil))))))))
theorem sim__law_of {C_PullError : Addr} {C_BadValue : Addr} {C_BadText : Addr} {C_BadGrounds : Addr} {C_NoPort : Addr} {C_NoName : Addr} {C_NoDriver : Addr} {C_NotNow : Addr} {C_TooMany : Addr} : SimS (b__law_of C_PullError C_BadValue C_BadText C_BadGrounds C_NoPort C_NoName C_NoDriver C_NotNow C_TooMany) (p__law_of C_PullError C_BadValue C_BadText C_BadGrounds C_NoPort C_NoName C_NoDriver C_NotNow C_TooMany) :=
  (ss_sq (ss_set0 (i := 1) (SimF.e (sf_lst (nargs_cons (nargs_cons (nargs_cons (nargs_cons nargs_nil)))) (by decide) (sa_cons0 (sm_callN os_isx (so_cons0 (sm_vO (i := 0)) (so_cons0 (SimE.o sm_ob) so_nil0))) (sa_cons0 (sm_callN os_isx (so_cons0 (sm_vO (i := 0)) (so_cons0 (SimE.o sm_ob) so_nil0))) (sa_cons0 (sm_callN os_isx (so_cons0 (sm_vO (i := 0)) (so_cons0 (SimE.o sm_ob) so_nil0))) (sa_cons0 (sm_callN os_isx (so_cons0 (sm_vO (i := 0)) (so_cons0 (SimE.o sm_ob) so_nil0))) sa_nil0)))))))
    (ss_ret0 (SimF.e (sf_bin of_addL (sm_vO (i := 1)) (SimF.o (sf_lst (nargs_cons (nargs_cons (nargs_cons (nargs_cons nargs_nil)))) (by decide) (sa_cons0 (sm_callN os_isx (so_cons0 (sm_vO (i := 0)) (so_cons0 (SimE.o sm_ob) so_nil0))) (sa_cons0 (sm_callN os_isx (so_cons0 (sm_vO (i := 0)) (so_cons0 (SimE.o sm_ob) so_nil0))) (sa_cons0 (sm_callN os_isx (so_cons0 (sm_vO (i := 0)) (so_cons0 (SimE.o sm_ob) so_nil0))) (sa_cons0 (sm_callN os_isx (so_cons0 (sm_vO (i := 0)) (so_cons0 (SimE.o sm_ob) so_nil0))) sa_nil0))))))))))
def p_law_k00_rest (C_PullError : Addr) (C_BadValue : Addr) (C_BadText : Addr) (C_BadGrounds : Addr) (C_NoPort : Addr) (C_NoName : Addr) (C_NoDriver : Addr) (C_NotNow : Addr) (C_TooMany : Addr) (g__law_numbers : PFn) (g__law_take : PFn) (g__law_so : PFn) (g__law_of : PFn) (g__law_foreign : PFn) (g__law_caught : PFn) : PS :=
  (psq (pset 3 (pbin subD (pcallF g__law_take (pcons (pvC 1) (pcons (pvC 2) (pcons (pK (.int 997)) pnil)))) (pK (.int 9))))
    (psq (pset 4 (pbin ixD (plst (pcons (pK .non) (pcons (pun negD (pvO 3)) (pcons (pK (.str "x")) (pcons (ptup (pcons (pvC 3) (pcons (pK (.int 2)) pnil))) (pcons (pK (.bl true)) pnil)))))) (pcallF g__law_take (pcons (pvC 1) (pcons (pvC 2) (pcons (pK (.int 5)) pnil))))))
    (psq (pfor (pseq (plst (pcons (pmkx C_BadValue "at" (pcons (pvC 3) pnil)) (pcons (pmkx C_BadText "at" (pcons (pvC 3) pnil)) (pcons (pmkx C_BadGrounds "at" (pcons (pvC 3) pnil)) (pcons (pmkx C_BadValue "at" (pcons (pvC 3) pnil)) (pcons (pmkx C_BadText "at" (pcons (pvC 3) pnil)) (pcons (pmkx C_BadGrounds "at" (pcons (pvC 3) pnil)) pnil)))))))) (pgN 5) (pif (pnotB (ptB (pcallF g__law_so (pcons (pattrX [C_BadValue, C_BadText, C_BadGrounds] "at" (pvC 5)) (pcons (pvC 3) pnil))))) (pret (pK (.bl false))) pnx))
    (psq (pfor (pseq (plst (pcons (ptup (pcons (pattrX [C_NoPort] "path" (pmkx C_NoPort "path" (pcons (pvC 4) pnil))) (pcons (pattrX [C_NoPort] "path" (pmkx C_NoPort "path" (pcons (pvC 4) pnil))) pnil))) (pcons (ptup (pcons (pattrX [C_NoName] "name" (pmkx C_NoName "name" (pcons (pvC 4) pnil))) (pcons (pattrX [C_NoName] "name" (pmkx C_NoName "name" (pcons (pvC 4) pnil))) pnil))) pnil)))) (pgN 6) (pif (pnotB (ptB (pcallF g__law_so (pcons (pvC 6) (pcons (ptup (pcons (pvC 4) (pcons (pvC 4) pnil))) pnil))))) (pret (pK (.bl false))) pnx))
    (psq (pfor (pseq (plst (pcons (ptup (pcons (pattrX [C_NoDriver] "word" (pmkx C_NoDriver "word" (pcons (pvC 4) pnil))) (pcons (pattrX [C_NoDriver] "word" (pmkx C_NoDriver "word" (pcons (pvC 4) pnil))) pnil))) (pcons (ptup (pcons (pattrX [C_NotNow] "event" (pmkx C_NotNow "event" (pcons (pvC 4) pnil))) (pcons (pattrX [C_NotNow] "event" (pmkx C_NotNow "event" (pcons (pvC 4) pnil))) pnil))) pnil)))) (pgN 6) (pif (pnotB (ptB (pcallF g__law_so (pcons (pvC 6) (pcons (ptup (pcons (pvC 4) (pcons (pvC 4) pnil))) pnil))))) (pret (pK (.bl false))) pnx))
    (psq (pset 7 (plst (pcons (pmkx C_BadValue "at" (pcons (pvC 3) pnil)) (pcons (pmkx C_BadText "at" (pcons (pvC 3) pnil)) (pcons (pmkx C_BadGrounds "at" (pcons (pvC 3) pnil)) (pcons (pmkx C_NoPort "path" (pcons (pvC 4) pnil)) (pcons (pmkx C_NoName "name" (pcons (pvC 4) pnil)) (pcons (pmkx C_NoDriver "word" (pcons (pvC 4) pnil)) (pcons (pmkx C_NotNow "event" (pcons (pvC 4) pnil)) (pcons (pmk0 C_TooMany) pnil))))))))))
    (psq (pfor (prng1 (pcons (pK (.int 8)) pnil)) (pgN 8) (pif (porB (ptB (pbin neD (pcallF g__law_of (pcons (pbin ixD (pvO 7) (pvO 8)) pnil)) (plc (prng1 (pcons (pK (.int 8)) pnil)) (pgN 9) pyes (pbin eqD (pvO 9) (pvO 8)) [9]))) (porB (ptB (pcallF g__law_foreign (pcons (pbin ixD (pvO 7) (pvO 8)) pnil))) (pnotB (ptB (pcallN (isxD C_PullError [C_BadValue, C_BadText, C_BadGrounds, C_NoPort, C_NoName, C_NoDriver, C_NotNow, C_TooMany]) (pcons (pbin ixD (pvO 7) (pvO 8)) (pcons (pK (.ob C_PullError)) pnil))))))) (pret (pK (.bl false))) pnx))
    (pret (pandV (pnotV (pcallF g__law_caught (pcons (pK (.int 0)) pnil))) (pcallF g__law_caught (pcons (pbin addD (pK (.int 1)) (pcallF g__law_take (pcons (pvC 1) (pcons (pvC 2) (pcons (pK (.int 9)) pnil))))) pnil)))))))))))
theorem sim_law_k00_rest {C_PullError : Addr} {C_BadValue : Addr} {C_BadText : Addr} {C_BadGrounds : Addr} {C_NoPort : Addr} {C_NoName : Addr} {C_NoDriver : Addr} {C_NotNow : Addr} {C_TooMany : Addr} {f__law_numbers : Fn} {g__law_numbers : PFn} {f__law_take : Fn} {g__law_take : PFn} {f__law_so : Fn} {g__law_so : PFn} {f__law_of : Fn} {g__law_of : PFn} {f__law_foreign : Fn} {g__law_foreign : PFn} {f__law_caught : Fn} {g__law_caught : PFn} (s__law_numbers : SimFn f__law_numbers g__law_numbers) (s__law_take : SimFn f__law_take g__law_take) (s__law_so : SimFn f__law_so g__law_so) (s__law_of : SimFn f__law_of g__law_of) (s__law_foreign : SimFn f__law_foreign g__law_foreign) (s__law_caught : SimFn f__law_caught g__law_caught) : SimS (b_law_k00_rest C_PullError C_BadValue C_BadText C_BadGrounds C_NoPort C_NoName C_NoDriver C_NotNow C_TooMany f__law_numbers f__law_take f__law_so f__law_of f__law_foreign f__law_caught) (p_law_k00_rest C_PullError C_BadValue C_BadText C_BadGrounds C_NoPort C_NoName C_NoDriver C_NotNow C_TooMany g__law_numbers g__law_take g__law_so g__law_of g__law_foreign g__law_caught) :=
  (ss_sq (ss_set0 (i := 3) (sm_bin os_sub (SimE.o (sm_callF s__law_take (sa_cons0 (sm_vC (i := 1)) (sa_cons0 (sm_vC (i := 2)) (sa_cons0 sm_int sa_nil0))))) (SimE.o sm_int)))
    (ss_sq (ss_set0 (i := 4) (sm_bin os_ix (SimF.o (sf_lst (nargs_cons (nargs_cons (nargs_cons (nargs_cons (nargs_cons nargs_nil))))) (by decide) (sa_cons0 sm_non (sa_cons0 (sm_un os_neg (sm_vO (i := 3))) (sa_cons0 sm_str (sa_cons0 (sm_tup (nargs_cons (nargs_cons nargs_nil)) (by decide) (sa_cons0 (sm_vC (i := 3)) (sa_cons0 sm_int sa_nil0))) (sa_cons0 sm_bl sa_nil0))))))) (SimE.o (sm_callF s__law_take (sa_cons0 (sm_vC (i := 1)) (sa_cons0 (sm_vC (i := 2)) (sa_cons0 sm_int sa_nil0)))))))
    (ss_sq (ss_for0 (si_seq0 (SimF.e (sf_lst (nargs_cons (nargs_cons (nargs_cons (nargs_cons (nargs_cons (nargs_cons nargs_nil)))))) (by decide) (sa_cons0 (sm_mkx (sa_cons0 (sm_vC (i := 3)) sa_nil0)) (sa_cons0 (sm_mkx (sa_cons0 (sm_vC (i := 3)) sa_nil0)) (sa_cons0 (sm_mkx (sa_cons0 (sm_vC (i := 3)) sa_nil0)) (sa_cons0 (sm_mkx (sa_cons0 (sm_vC (i := 3)) sa_nil0)) (sa_cons0 (sm_mkx (sa_cons0 (sm_vC (i := 3)) sa_nil0)) (sa_cons0 (sm_mkx (sa_cons0 (sm_vC (i := 3)) sa_nil0)) sa_nil0))))))))) (gc_name (i := 5)) (ss_if0 (sb_not0 (sb_tB (SimE.o (sm_callF s__law_so (sa_cons0 (sm_attrX (sm_vC (i := 5))) (sa_cons0 (sm_vC (i := 3)) sa_nil0)))))) (ss_ret0 sm_bl) ss_nx))
    (ss_sq (ss_for0 (si_seq0 (SimF.e (sf_lst (nargs_cons (nargs_cons nargs_nil)) (by decide) (sa_cons0 (sm_tup (nargs_cons (nargs_cons nargs_nil)) (by decide) (sa_cons0 (sm_attrX (sm_mkx (sa_cons0 (sm_vC (i := 4)) sa_nil0))) (sa_cons0 (sm_attrX (sm_mkx (sa_cons0 (sm_vC (i := 4)) sa_nil0))) sa_nil0))) (sa_cons0 (sm_tup (nargs_cons (nargs_cons nargs_nil)) (by decide) (sa_cons0 (sm_attrX (sm_mkx (sa_cons0 (sm_vC (i := 4)) sa_nil0))) (sa_cons0 (sm_attrX (sm_mkx (sa_cons0 (sm_vC (i := 4)) sa_nil0))) sa_nil0))) sa_nil0))))) (gc_name (i := 6)) (ss_if0 (sb_not0 (sb_tB (SimE.o (sm_callF s__law_so (sa_cons0 (sm_vC (i := 6)) (sa_cons0 (sm_tup (nargs_cons (nargs_cons nargs_nil)) (by decide) (sa_cons0 (sm_vC (i := 4)) (sa_cons0 (sm_vC (i := 4)) sa_nil0))) sa_nil0)))))) (ss_ret0 sm_bl) ss_nx))
    (ss_sq (ss_for0 (si_seq0 (SimF.e (sf_lst (nargs_cons (nargs_cons nargs_nil)) (by decide) (sa_cons0 (sm_tup (nargs_cons (nargs_cons nargs_nil)) (by decide) (sa_cons0 (sm_attrX (sm_mkx (sa_cons0 (sm_vC (i := 4)) sa_nil0))) (sa_cons0 (sm_attrX (sm_mkx (sa_cons0 (sm_vC (i := 4)) sa_nil0))) sa_nil0))) (sa_cons0 (sm_tup (nargs_cons (nargs_cons nargs_nil)) (by decide) (sa_cons0 (sm_attrX (sm_mkx (sa_cons0 (sm_vC (i := 4)) sa_nil0))) (sa_cons0 (sm_attrX (sm_mkx (sa_cons0 (sm_vC (i := 4)) sa_nil0))) sa_nil0))) sa_nil0))))) (gc_name (i := 6)) (ss_if0 (sb_not0 (sb_tB (SimE.o (sm_callF s__law_so (sa_cons0 (sm_vC (i := 6)) (sa_cons0 (sm_tup (nargs_cons (nargs_cons nargs_nil)) (by decide) (sa_cons0 (sm_vC (i := 4)) (sa_cons0 (sm_vC (i := 4)) sa_nil0))) sa_nil0)))))) (ss_ret0 sm_bl) ss_nx))
    (ss_sq (ss_set0 (i := 7) (SimF.e (sf_lst (nargs_cons (nargs_cons (nargs_cons (nargs_cons (nargs_cons (nargs_cons (nargs_cons (nargs_cons nargs_nil)))))))) (by decide) (sa_cons0 (sm_mkx (sa_cons0 (sm_vC (i := 3)) sa_nil0)) (sa_cons0 (sm_mkx (sa_cons0 (sm_vC (i := 3)) sa_nil0)) (sa_cons0 (sm_mkx (sa_cons0 (sm_vC (i := 3)) sa_nil0)) (sa_cons0 (sm_mkx (sa_cons0 (sm_vC (i := 4)) sa_nil0)) (sa_cons0 (sm_mkx (sa_cons0 (sm_vC (i := 4)) sa_nil0)) (sa_cons0 (sm_mkx (sa_cons0 (sm_vC (i := 4)) sa_nil0)) (sa_cons0 (sm_mkx (sa_cons0 (sm_vC (i := 4)) sa_nil0)) (sa_cons0 sm_mk0 sa_nil0)))))))))))
    (ss_sq (ss_for0 (si_rng1 (sa_cons0 sm_int sa_nil0)) (gc_name (i := 8)) (ss_if0 (sb_or0 (sb_tB (SimE.o (sm_bin os_ne (SimE.o (sm_callF s__law_of (sa_cons0 (sm_bin os_ix (sm_vO (i := 7)) (sm_vO (i := 8))) sa_nil0))) (SimF.o (sf_lc (si_rng1 (sa_cons0 sm_int sa_nil0)) (gc_name (i := 9)) sb_yes (sm_bin os_eq (sm_vO (i := 9)) (sm_vO (i := 8)))))))) (sb_or0 (sb_tB (SimE.o (sm_callF s__law_foreign (sa_cons0 (sm_bin os_ix (sm_vO (i := 7)) (sm_vO (i := 8))) sa_nil0)))) (sb_not0 (sb_tB (SimE.o (sm_callN os_isx (so_cons0 (SimE.o (sm_bin os_ix (sm_vO (i := 7)) (sm_vO (i := 8)))) (so_cons0 (SimE.o sm_ob) so_nil0)))))))) (ss_ret0 sm_bl) ss_nx))
    (ss_ret0 (sm_and (SimE.o (sm_not (SimE.o (sm_callF s__law_caught (sa_cons0 sm_int sa_nil0))))) (sm_callF s__law_caught (sa_cons0 (sm_bin os_add (SimE.o sm_int) (SimE.o (sm_callF s__law_take (sa_cons0 (sm_vC (i := 1)) (sa_cons0 (sm_vC (i := 2)) (sa_cons0 sm_int sa_nil0)))))) sa_nil0)))))))))))
end Sh
set_option linter.all false
set_option maxRecDepth 100000
set_option maxHeartbeats 4000000
namespace Sh
open PySem PySem.Spec PyProof.Rows L2
def F__law_so : Nat → Fn
  | 0 => fun _ _ => .bad
  | d + 1 => runB 3 (b__law_so (F__law_so d))
def P__law_so : Nat → PFn
  | 0 => fun _ _ => .bad
  | d + 1 => prun 3 (p__law_so (P__law_so d))
theorem S__law_so : ∀ d, SimFn (F__law_so d) (P__law_so d)
  | 0 => SimFn.bad
  | d + 1 => sim_run (sim__law_so (S__law_so d))
def F__law_numbers : Fn := runB 6 (b__law_numbers)
def F__law_draw : Fn := runB 4 (b__law_draw)
def F__law_take : Fn := runB 3 (b__law_take (F__law_draw))
/-- the n-th draw below lim -/
def drw (row : List Int) (n : Nat) (lim : Int) : Int :=
  if (n : Int) < row.length then row.getD ((n : Int)).toNat 0 % lim
  else ((((row.getD ((n : Int) % row.length).toNat 0 * 40692 + (n : Int) * 7919 + 3) % 2147483399) * 48271 + (n : Int)) % 2147483647) % lim
def P__law_take : PFn := fun ds n => match ds with
  | [.lst row, .spt, .int lim] => match row.mapM intDI with
    | some is => if 0 < is.length ∧ 0 < lim then .ok (.int (drw is n lim)) (n + 1) else .bad
    | none => .bad
  | _ => .bad
theorem intDI_of : ∀ {ds : List D} {is : List Int}, ds.mapM intDI = some is → ds = is.map D.int
  | [], is, e => by cases e; rfl
  | d :: ds, is, e => by
    obtain ⟨i, r, h1, h2, rfl⟩ := mapM_cons_some e
    cases d with
    | int j => cases h1; rw [intDI_of h2]; rfl
    | _ => cases h1
theorem vws_of_ints {s : Nat} {F : Fz} {mem : Mem} : ∀ {ws : List W} {is : List Int}, Vws s F mem ws (is.map D.int) → ws = is.map W.int
  | _, [], .nil => rfl
  | _, i :: is, .cons v t => by rw [v.int_eq, vws_of_ints t]; rfl
theorem atI_row {row : List Int} {i : Int} (h0 : 0 ≤ i) (h1 : i < row.length) : atI (row.map W.int) i = some (.int (row.getD i.toNat 0)) := by
  have hl : i.toNat < row.length := by omega
  unfold atI ixN
  rw [List.length_map, if_pos h0, if_pos h1]
  show (row.map W.int)[i.toNat]? = _
  rw [List.getElem?_map, List.getElem?_eq_getElem hl, List.getD_eq_getElem?_getD, List.getElem?_eq_getElem hl]
  rfl
theorem draw_ex {row : List Int} {i lim : Int} {r : Nat} {mem : Mem} (hr : listAt mem r = some (row.map W.int)) (hne : 0 < row.length) (h0 : 0 ≤ i) (hl : 0 < lim) :
    ∃ v : Int, v = (if i < row.length then row.getD i.toNat 0 % lim else ((((row.getD (i % row.length).toNat 0 * 40692 + i * 7919 + 3) % 2147483399) * 48271 + i) % 2147483647) % lim) ∧ F__law_draw [.loc r, .int i, .int lim] mem = .ok (.int v) mem := by
  unfold F__law_draw
  by_cases h : i < row.length
  · refine ⟨row.getD i.toNat 0 % lim, by rw [if_pos h], ?_⟩
    simp [runB, b__law_draw, startE, seqS, ifS, ofE, tB, bin, SM.bind, varE, callN, consA, nilA, SM.pure, lift, lenV, hr, ltV, iiV, h, retS, modV, intV, ixV, atI_row h0 h, hl]
  · have h2 : 0 ≤ i % (row.length : Int) := Int.emod_nonneg _ (by omega)
    have h3 : i % (row.length : Int) < row.length := Int.emod_lt_of_pos _ (by omega)
    refine ⟨((((row.getD (i % row.length).toNat 0 * 40692 + i * 7919 + 3) % 2147483399) * 48271 + i) % 2147483647) % lim, by rw [if_neg h], ?_⟩
    simp [runB, b__law_draw, startE, seqS, ifS, ofE, tB, bin, SM.bind, varE, callN, consA, nilA, SM.pure, lift, lenV, hr, ltV, iiV, h, retS, modV, intV, ixV, atI_row h2 h3, hl, nextS, setS, cE, addV, mulV, hne]
theorem draw_eq {row : List Int} {n : Nat} {lim : Int} {r : Nat} {mem : Mem} (hr : listAt mem r = some (row.map W.int)) (hne : 0 < row.length) (hl : 0 < lim) :
    F__law_draw [.loc r, .int (n : Int), .int lim] mem = .ok (.int (drw row n lim)) mem := by
  obtain ⟨v, hv, e⟩ := draw_ex (i := (n : Int)) hr hne (by omega) hl
  rw [e, hv]
  rfl
theorem S__law_take : SimFn F__law_take P__law_take := fun s F mem n ws ds wd v => by
  unfold P__law_take
  split
  · rename_i row lim
    cases hm : row.mapM intDI with
    | none => trivial
    | some is =>
      dsimp only
      by_cases hc : 0 < is.length ∧ 0 < lim
      case neg => rw [if_neg hc]; trivial
      rw [if_pos hc]
      cases v with
      | cons v1 v => cases v with
        | cons v2 v => cases v with
          | cons v3 v =>
            cases v
            rw [v3.int_eq]
            cases v2 with
            | loc _ _ h => cases h
            | spt =>
              cases v1 with
              | @loc r c _ hF e h => cases h with
                | @lst us _ vs =>
                  rw [intDI_of hm] at vs
                  have eu := vws_of_ints vs
                  subst eu
                  have hrs : r ≠ s := fun e => wd.nf (e ▸ hF)
                  have hs := listAt_of wd.spot
                  have hls := wd.s_lt
                  have hs1 : listAt (mem.set s (.lst [.int ((n : Int) + 1)])) s = some [.int ((n : Int) + 1)] := listAt_of (List.getElem?_set_self hls)
                  have hr1 : listAt (mem.set s (.lst [.int ((n : Int) + 1)])) r = some (is.map W.int) := listAt_of (by rw [List.getElem?_set_ne (Ne.symm hrs)]; exact e)
                  have hd := draw_eq (n := n) (lim := lim) hr1 hc.1 hc.2
                  have ex : F__law_take [.loc r, .loc s, .int lim] mem = .ok (.int (drw is n lim)) (mem.set s (.lst [.int ((n : Int) + 1)])) := by
                    have a0 : atI [W.int (n : Int)] 0 = some (.int (n : Int)) := rfl
                    have a1 : atI [W.int ((n : Int) + 1)] 0 = some (.int ((n : Int) + 1)) := rfl
                    have x0 : ixN 1 0 = some 0 := rfl
                    simp [F__law_take, runB, b__law_take, startE, seqS, asgS, ofE, bin, SM.bind, varE, callN, consA, nilA, SM.pure, lift, ixV, hs, a0, addV, cE, subG, setV, x0, retS, callF, hs1, a1, subV, iiV, hd]
                  rw [ex]
                  have f : Fr F mem F (mem.set s (.lst [.int ((n : Int) + 1)])) := ⟨fun _ h => h, fun j h => List.getElem?_set_ne (by rintro rfl; exact wd.nf h)⟩
                  exact ⟨_, _, F, rfl, ⟨f, fun _ _ h => h, fun j _ hj => List.getElem?_set_ne (Ne.symm hj), by rw [List.length_set]; omega⟩, ⟨by rw [List.getElem?_set_self hls]; rfl, wd.nf, fun j h => by rw [List.length_set]; exact wd.lt j h⟩, .int _⟩
  · trivial
end Sh
set_option linter.all false
set_option maxRecDepth 100000
set_option maxHeartbeats 4000000
namespace Sh
open PySem PySem.Spec PyProof.Rows L2
def F__law_caught (C_PullError : Addr) (C_BadValue : Addr) (C_BadText : Addr) (C_BadGrounds : Addr) (C_NoPort : Addr) (C_NoName : Addr) (C_NoDriver : Addr) (C_NotNow : Addr) (C_TooMany : Addr) : Fn := runB 2 (b__law_caught C_PullError C_BadValue C_BadText C_BadGrounds C_NoPort C_NoName C_NoDriver C_NotNow C_TooMany)
def P__law_caught (C_PullError : Addr) (C_BadValue : Addr) (C_BadText : Addr) (C_BadGrounds : Addr) (C_NoPort : Addr) (C_NoName : Addr) (C_NoDriver : Addr) (C_NotNow : Addr) (C_TooMany : Addr) : PFn := prun 2 (p__law_caught C_PullError C_BadValue C_BadText C_BadGrounds C_NoPort C_NoName C_NoDriver C_NotNow C_TooMany)
theorem S__law_caught (C_PullError : Addr) (C_BadValue : Addr) (C_BadText : Addr) (C_BadGrounds : Addr) (C_NoPort : Addr) (C_NoName : Addr) (C_NoDriver : Addr) (C_NotNow : Addr) (C_TooMany : Addr) : SimFn (F__law_caught C_PullError C_BadValue C_BadText C_BadGrounds C_NoPort C_NoName C_NoDriver C_NotNow C_TooMany) (P__law_caught C_PullError C_BadValue C_BadText C_BadGrounds C_NoPort C_NoName C_NoDriver C_NotNow C_TooMany) := sim_run (sim__law_caught)
def F__law_foreign (C_PullError : Addr) (C_BadValue : Addr) (C_BadText : Addr) (C_BadGrounds : Addr) (C_NoPort : Addr) (C_NoName : Addr) (C_NoDriver : Addr) (C_NotNow : Addr) (C_TooMany : Addr) : Fn := runB 1 (b__law_foreign C_PullError C_BadValue C_BadText C_BadGrounds C_NoPort C_NoName C_NoDriver C_NotNow C_TooMany)
def P__law_foreign (C_PullError : Addr) (C_BadValue : Addr) (C_BadText : Addr) (C_BadGrounds : Addr) (C_NoPort : Addr) (C_NoName : Addr) (C_NoDriver : Addr) (C_NotNow : Addr) (C_TooMany : Addr) : PFn := prun 1 (p__law_foreign C_PullError C_BadValue C_BadText C_BadGrounds C_NoPort C_NoName C_NoDriver C_NotNow C_TooMany)
theorem S__law_foreign (C_PullError : Addr) (C_BadValue : Addr) (C_BadText : Addr) (C_BadGrounds : Addr) (C_NoPort : Addr) (C_NoName : Addr) (C_NoDriver : Addr) (C_NotNow : Addr) (C_TooMany : Addr) : SimFn (F__law_foreign C_PullError C_BadValue C_BadText C_BadGrounds C_NoPort C_NoName C_NoDriver C_NotNow C_TooMany) (P__law_foreign C_PullError C_BadValue C_BadText C_BadGrounds C_NoPort C_NoName C_NoDriver C_NotNow C_TooMany) := sim_run (sim__law_foreign)
def F__law_of (C_PullError : Addr) (C_BadValue : Addr) (C_BadText : Addr) (C_BadGrounds : Addr) (C_NoPort : Addr) (C_NoName : Addr) (C_NoDriver : Addr) (C_NotNow : Addr) (C_TooMany : Addr) : Fn := runB 2 (b__law_of C_PullError C_BadValue C_BadText C_BadGrounds C_NoPort C_NoName C_NoDriver C_NotNow C_TooMany)
def P__law_of (C_PullError : Addr) (C_BadValue : Addr) (C_BadText : Addr) (C_BadGrounds : Addr) (C_NoPort : Addr) (C_NoName : Addr) (C_NoDriver : Addr) (C_NotNow : Addr) (C_TooMany : Addr) : PFn := prun 2 (p__law_of C_PullError C_BadValue C_BadText C_BadGrounds C_NoPort C_NoName C_NoDriver C_NotNow C_TooMany)
theorem S__law_of (C_PullError : Addr) (C_BadValue : Addr) (C_BadText : Addr) (C_BadGrounds : Addr) (C_NoPort : Addr) (C_NoName : Addr) (C_NoDriver : Addr) (C_NotNow : Addr) (C_TooMany : Addr) : SimFn (F__law_of C_PullError C_BadValue C_BadText C_BadGrounds C_NoPort C_NoName C_NoDriver C_NotNow C_TooMany) (P__law_of C_PullError C_BadValue C_BadText C_BadGrounds C_NoPort C_NoName C_NoDriver C_NotNow C_TooMany) := sim_run (sim__law_of)
def F_law_k00 (C_PullError : Addr) (C_BadValue : Addr) (C_BadText : Addr) (C_BadGrounds : Addr) (C_NoPort : Addr) (C_NoName : Addr) (C_NoDriver : Addr) (C_NotNow : Addr) (C_TooMany : Addr) : Fn := runB 10 (b_law_k00 C_PullError C_BadValue C_BadText C_BadGrounds C_NoPort C_NoName C_NoDriver C_NotNow C_TooMany (F__law_numbers) (F__law_take) (F__law_so 8) (F__law_of C_PullError C_BadValue C_BadText C_BadGrounds C_NoPort C_NoName C_NoDriver C_NotNow C_TooMany) (F__law_foreign C_PullError C_BadValue C_BadText C_BadGrounds C_NoPort C_NoName C_NoDriver C_NotNow C_TooMany) (F__law_caught C_PullError C_BadValue C_BadText C_BadGrounds C_NoPort C_NoName C_NoDriver C_NotNow C_TooMany))
end Sh
set_option linter.all false
set_option maxRecDepth 100000
set_option maxHeartbeats 4000000
namespace Sh
open PySem PySem.Spec PyProof.Rows L2
local macro_rules | `(tactic| walk_at "wk") => `(tactic| try simp only [wr_run, ws_seq, ws_ret, ws_retN, ws_next, ws_brk, ws_ct, ws_drop, ws_set, ws_if, ws_asg, ws_par, ws_aug, ws_for, wp_ok, wp_bad, wp_pure, wp_bind, wp_lift, wp_lift0, wp_var, wp_c, wp_bin, wp_un, wp_callN, wp_callF, wp_nil, wp_cons, wp_tup, wp_lst, wp_andV, wp_orV, wp_notV, wp_ifE, wp_tB, wp_andB, wp_orB, wp_notB, wp_chain, wp_optN, wp_optS, wp_slice, wp_meth, wp_lr, wp_lc, wp_seqI, wp_rng1, wg_name, wg_nil, wg_cons, wg_seq, wg_sub, startE, List.map_cons, List.map_nil, List.length_cons, List.length_nil, List.getElem?_cons_zero, List.getElem?_cons_succ, List.cons_append, List.nil_append, List.set_cons_zero, List.set_cons_succ, List.replicate_succ, List.replicate_zero, Nat.reduceSub, Nat.reduceAdd, isB, if_true, if_false, Bool.false_eq_true, Bool.not_true, Bool.not_false, reduceIte, yesB])
theorem listAt_set_ne {mem : Mem} {a b : Nat} {c : Cell} (h : a ≠ b) : listAt (mem.set a c) b = listAt mem b := by
  unfold listAt
  rw [List.getElem?_set_ne h]
theorem listAt_lt {mem : Mem} {a : Nat} {ys : List W} (h : listAt mem a = some ys) : a < mem.length := (List.getElem?_eq_some_iff.mp (listAt_some h)).1
theorem listAt_set {mem : Mem} {a : Nat} {xs ys : List W} (h : listAt mem a = some ys) : listAt (mem.set a (.lst xs)) a = some xs := by
  unfold listAt
  rw [List.getElem?_set_self (listAt_lt h)]
theorem listAt_app {mem : Mem} {a : Nat} {ys : List W} {r : Mem} (h : listAt mem a = some ys) : listAt (mem ++ r) a = some ys := by
  unfold listAt at h ⊢
  rw [List.getElem?_append_left (listAt_lt h)]
  exact h
theorem listAt_new {mem : Mem} {xs : List W} : listAt (mem ++ [.lst xs]) mem.length = some xs := by
  unfold listAt
  rw [List.getElem?_append_right (Nat.le_refl _), Nat.sub_self]
  rfl
theorem chk_loc {m : Mem} {n : Nat} {xs : List W} (h : listAt m n = some xs) : chkL (.loc n) m = true := by
  show (listAt m n).isSome = true
  rw [h]
  rfl
theorem append_loc {m : Mem} {n : Nat} {xs : List W} {w : W} (h : listAt m n = some xs) (hz : xs.length < sizeLine) : appendV (.loc n) [w] m = some (.non, m.set n (.lst (xs ++ [w]))) := by
  unfold appendV
  dsimp only
  rw [h]
  dsimp only [Option.bind]
  rw [if_pos hz]
theorem lenV_items {mem : Mem} {w : W} {xs : List W} (h : itemsOf mem w = some xs) : lenV [w] mem = some (.int xs.length, mem) := by
  cases w with
  | tup ys => cases h; rfl
  | rol ys => cases h; rfl
  | loc n => have h' : listAt mem n = some xs := h; unfold lenV; dsimp only; rw [h']; rfl
  | _ => cases h
theorem eqv_int {a b : Int} : PyData.eqv (.int a) (.int b) = (a == b) := by simp only [PyData.eqv]
theorem sh_int (i : Int) : SeqAt.shaped (.int i) = true := by
  show (PyData.canLay0 (.int i) && decide (PyData.depth (.int i) ≤ 64)) = true
  simp [PyData.canLay0, PyData.depth]
theorem eqV_int {a b : Int} {m : Mem} : eqV (.int a) (.int b) m = some (.bl (a == b), m) := by
  unfold eqV eqvM
  show Option.map (fun b => (W.bl b, m)) (if (SeqAt.shaped (.int a) && SeqAt.shaped (.int b)) = true then some (PyData.eqv (.int a) (.int b)) else none) = _
  rw [sh_int, sh_int, eqv_int]
  rfl
def Kq (a b : Mem) : Prop := ∀ (i : Nat) (c : Cell), a[i]? = some c → b[i]? = some c
theorem Kq.trans {a b c : Mem} (h : Kq a b) (k : Kq b c) : Kq a c := fun i x e => k i x (h i x e)
theorem Kq.app {a r : Mem} : Kq a (a ++ r) := fun i c e => by
  rw [List.getElem?_append_left (List.getElem?_eq_some_iff.mp e).1]
  exact e
theorem Kq.set {a b : Mem} (h : Kq a b) {i : Nat} {c : Cell} (l : a.length ≤ i) : Kq a (b.set i c) := fun j x e => by
  have hj := (List.getElem?_eq_some_iff.mp e).1
  rw [List.getElem?_set_ne (by omega)]
  exact h j x e
theorem walk_loc {m : Mem} {i : Nat} {xs : List W} (h : listAt m i = some xs) : walkOf (.loc i) m = some ⟨locN i, xs.length⟩ := by
  unfold walkOf
  dsimp only
  rw [h]
  rfl
theorem locN_eq {m : Mem} {i k : Nat} {xs : List W} (h : listAt m i = some xs) : locN i k m = some xs[k]? := by
  unfold locN
  rw [h]
  rfl
theorem getL {α β : Type} {xs : List α} {f : α → β} {k : Nat} {x : β} (h : (xs.map f)[k]? = some x) : ∃ y, xs[k]? = some y ∧ x = f y := by
  rw [List.getElem?_map] at h
  cases e : xs[k]? with
  | none => rw [e] at h; cases h
  | some y => rw [e] at h; cases h; exact ⟨y, rfl, rfl⟩
theorem len_loc {m : Mem} {i : Nat} {xs : List W} (h : listAt m i = some xs) : lenV [.loc i] m = some (.int xs.length, m) := lenV_items (w := .loc i) h
def nLa : SS := (seqS (ifS (tB (bin eqV (varE 3) (cE (.int 0)))) brkS nextS) (seqS (dropS (methE chkL appendV (varE 1) (consA (bin modV (callN intV (consA (varE 3) nilA)) (cE (.int 997))) nilA))) (setS 3 (bin fdivV (varE 3) (cE (.int 997))))))
def nLb : SS := (seqS (setS 5 (bin modV (callN intV (consA (bin addV (bin addV (bin mulV (varE 2) (cE (.int 48271))) (bin mulV (varE 4) (cE (.int 69621)))) (cE (.int 11))) nilA)) (cE (.int 2147483647)))) (dropS (methE chkL appendV (varE 1) (consA (bin modV (callN intV (consA (bin addV (bin mulV (varE 5) (cE (.int 16807))) (varE 4)) nilA)) (cE (.int 2147483629))) nilA))))
theorem b_numbers_eq : b__law_numbers = (seqS (setS 1 (lstE nilA)) (seqS (forS (seqI (sliceE (varE 0) none (some (cE (.int 63))))) (nameG 2) (ifS (tB (bin geV (varE 2) (bin powV (cE (.int 10)) (cE (.int 18))))) (seqS (setS 3 (varE 2)) (forS (rng1I (consA (cE (.int 60)) nilA)) (nameG 4) nLa)) (forS (rng1I (consA (cE (.int 4)) nilA)) (nameG 4) nLb))) (seqS (ifS (tB (bin eqV (callN lenV (consA (varE 1) nilA)) (cE (.int 0)))) (dropS (methE chkL appendV (varE 1) (consA (cE (.int 0)) nilA))) nextS) (retS (varE 1))))) := rfl
section
variable {m : Mem} {i j : Int}
theorem modV_int (h : 0 < j) : modV (.int i) (.int j) m = some (.int (i % j), m) := by
  unfold modV iiV
  dsimp only
  rw [if_pos (decide_eq_true h)]
theorem fdivV_int (h : 0 < j) (h2 : j < 1073741824) : fdivV (.int i) (.int j) m = some (.int (i / j), m) := by
  unfold fdivV iiV
  dsimp only
  rw [if_pos (by rw [decide_eq_true h, decide_eq_true h2]; rfl)]
theorem mulV_int (h : -(2 ^ 64) < j) (h2 : j < 2 ^ 64) : mulV (.int i) (.int j) m = some (.int (i * j), m) := by
  unfold mulV iiV
  dsimp only
  rw [if_pos (by rw [decide_eq_true h, decide_eq_true h2]; simp)]
theorem intV_int : intV [.int i] m = some (.int i, m) := rfl
theorem addV_int : addV (.int i) (.int j) m = some (.int (i + j), m) := rfl
theorem geV_int : geV (.int i) (.int j) m = some (.bl (decide (j ≤ i)), m) := rfl
theorem append_int {L : Nat} {row : List Int} (h : listAt m L = some (row.map W.int)) (hz : row.length < 16777216) : appendV (.loc L) [.int i] m = some (.non, m.set L (.lst ((row ++ [i]).map W.int))) := by
  rw [append_loc h (by rw [List.length_map, sizeLine_eq]; exact hz), List.map_append]
  rfl
end
/-- the row while it grows -/
def NumI (L : Nat) (mem : Mem) (xs : List W) (b : Nat) (e : VEnv) (m : Mem) : Prop := ∃ (row : List Int) (x2 x3 x4 x5 : Option W), e = [some (.rol xs), some (.loc L), x2, x3, x4, x5] ∧ listAt m L = some (row.map W.int) ∧ row.length ≤ b ∧ Kq mem m
theorem numbers_post {mem : Mem} {ns : List Int} {Q : W → Mem → Prop} {ex : Exc → Mem → Prop} (h : ∀ (row : List Int) (m : Mem), 0 < row.length → listAt m mem.length = some (row.map W.int) → Kq mem m → Q (.loc mem.length) m) : (F__law_numbers [.rol (ns.map W.int)] mem).Post Q ex := by
  have hsz : sizeLine = 16777216 := sizeLine_eq
  unfold F__law_numbers
  refine Eq.mpr wr_run ?_
  rw [b_numbers_eq]
  walk_at "wk"
  refine ⟨Nat.zero_le _, ?_⟩
  rw [show slV none (some 63) (.rol (ns.map W.int)) (mem ++ [Cell.lst []]) = some (.loc (mem ++ [Cell.lst []]).length, mem ++ [Cell.lst []] ++ [.lst (cutW (ns.map W.int) none (some 63))]) from rfl, wp_lift, walk_loc listAt_new]
  dsimp only
  obtain ⟨cs, hcs, hlen⟩ : ∃ cs : List Int, cutW (ns.map W.int) none (some 63) = cs.map W.int ∧ cs.length ≤ 63 := by
    refine ⟨(ns.drop (HT.sIx (ns.map W.int).length 0 none)).take (HT.sIx (ns.map W.int).length (ns.map W.int).length (some 63) - HT.sIx (ns.map W.int).length 0 none), ?_, ?_⟩
    · unfold cutW
      rw [List.map_take, List.map_drop]
    · refine Nat.le_trans (List.length_take_le _ _) ?_
      show HT.sIx _ _ (some ((63 : Nat) : Int)) - _ ≤ 63
      rw [HT.sIx_nat]
      omega
  rw [hcs]
  have hl0 : (mem ++ [Cell.lst []]).length = mem.length + 1 := by rw [List.length_append]; rfl
  rw [hl0]
  refine ws_loop (cs.map W.int) (fun k env m => NumI mem.length mem (ns.map W.int) (60 * k) env m ∧ listAt m (mem.length + 1) = some (cs.map W.int)) ?_ ?_ ?_ ?_
  · rintro k env m hk ⟨_, h2⟩
    exact locN_eq h2
  · refine ⟨⟨[], _, _, _, _, rfl, listAt_app listAt_new, Nat.le_refl _, Kq.app.trans Kq.app⟩, ?_⟩
    rw [← hl0]
    exact listAt_new
  · rintro k x env m hx ⟨⟨row, x2, x3, x4, x5, rfl, h1, h2, h3⟩, h4⟩
    obtain ⟨c, e, rfl⟩ := getL hx
    have hk : k < 63 := by have := (List.getElem?_eq_some_iff.mp e).1; omega
    walk_at "wk"
    have hp : powV (.int 10) (.int 18) m = some (.int 1000000000000000000, m) := by
      unfold powV iiV
      dsimp only
      rw [if_pos (by decide)]
      rfl
    rw [hp, wp_lift, geV_int, wp_lift]
    dsimp only
    by_cases c1 : (1000000000000000000 : Int) ≤ c
    · rw [decide_eq_true c1, if_pos rfl]
      refine ⟨⟨by decide, by decide⟩, ?_⟩
      refine ws_range (Int.toNat 60) (fun i env m => ∃ (row : List Int) (left : Int) (x4 x5 : Option W), env = [some (.rol (ns.map W.int)), some (.loc mem.length), some (.int c), some (.int left), x4, x5] ∧ listAt m mem.length = some (row.map W.int) ∧ row.length ≤ 60 * k + i ∧ Kq mem m ∧ listAt m (mem.length + 1) = some (cs.map W.int)) ?_ ?_ ?_
      · exact ⟨row, c, _, _, rfl, h1, by omega, h3, h4⟩
      · rintro i env m hi ⟨row, left, x4, x5, rfl, h1, h2, h3, h4⟩
        have hi' : i < 60 := hi
        unfold nLa
        walk_at "wk"
        rw [eqV_int, wp_lift]
        dsimp only
        by_cases c2 : (left == 0) = true
        · rw [if_pos c2]
          exact ⟨⟨row, _, _, _, _, rfl, h1, by omega, h3⟩, h4⟩
        · rw [if_neg c2]
          refine ⟨chk_loc h1, ?_⟩
          rw [intV_int, wp_lift, modV_int (by decide), wp_lift, append_int h1 (by omega), wp_lift, fdivV_int (by decide) (by decide), wp_lift]
          refine ⟨row ++ [left % 997], _, _, _, rfl, listAt_set h1, by rw [List.length_append, List.length_singleton]; omega, h3.set (Nat.le_refl _), ?_⟩
          rw [listAt_set_ne (by omega)]
          exact h4
      · rintro env m ⟨row, left, x4, x5, rfl, h1, h2, h3, h4⟩
        have h2' : row.length ≤ 60 * k + 60 := h2
        exact ⟨⟨row, _, _, _, _, rfl, h1, by omega, h3⟩, h4⟩
    · rw [decide_eq_false c1]
      simp only [Bool.false_eq_true, if_false]
      refine ⟨⟨by decide, by decide⟩, ?_⟩
      refine ws_range (Int.toNat 4) (fun i env m => ∃ (row : List Int) (x3 x4 x5 : Option W), env = [some (.rol (ns.map W.int)), some (.loc mem.length), some (.int c), x3, x4, x5] ∧ listAt m mem.length = some (row.map W.int) ∧ row.length ≤ 60 * k + i ∧ Kq mem m ∧ listAt m (mem.length + 1) = some (cs.map W.int)) ?_ ?_ ?_
      · exact ⟨row, _, _, _, rfl, h1, by omega, h3, h4⟩
      · rintro i env m hi ⟨row, x3, x4, x5, rfl, h1, h2, h3, h4⟩
        have hi' : i < 4 := hi
        unfold nLb
        walk_at "wk"
        rw [mulV_int (by decide) (by decide), wp_lift, mulV_int (by decide) (by decide), wp_lift, addV_int, wp_lift, addV_int, wp_lift, intV_int, wp_lift, modV_int (by decide), wp_lift]
        refine ⟨chk_loc h1, ?_⟩
        rw [mulV_int (by decide) (by decide), wp_lift, addV_int, wp_lift, intV_int, wp_lift, modV_int (by decide), wp_lift, append_int h1 (by omega), wp_lift]
        refine ⟨_, _, _, _, rfl, listAt_set h1, by rw [List.length_append, List.length_singleton]; omega, h3.set (Nat.le_refl _), ?_⟩
        rw [listAt_set_ne (by omega)]
        exact h4
      · rintro env m ⟨row, x3, x4, x5, rfl, h1, h2, h3, h4⟩
        have h2' : row.length ≤ 60 * k + 4 := h2
        exact ⟨⟨row, _, _, _, _, rfl, h1, by omega, h3⟩, h4⟩
  · rintro env m ⟨⟨row, x2, x3, x4, x5, rfl, h1, h2, h3⟩, h4⟩
    rw [List.length_map] at h2
    walk_at "wk"
    rw [len_loc h1, wp_lift, List.length_map, eqV_int, wp_lift]
    dsimp only
    by_cases c : ((row.length : Int) == 0) = true
    · rw [if_pos c]
      refine ⟨chk_loc h1, ?_⟩
      rw [append_int h1 (by omega), wp_lift]
      exact h (row ++ [0]) _ (by simp) (listAt_set h1) (h3.set (Nat.le_refl _))
    · rw [if_neg c]
      refine h row m ?_ h1 h3
      have : row.length ≠ 0 := fun z => c (by rw [z]; rfl)
      omega
theorem numbers_ok (ns : List Int) : ∃ (row : List Int) (m : Mem) (r : Nat), 0 < row.length ∧ F__law_numbers [.rol (ns.map W.int)] [] = .ok (.loc r) m ∧ m[r]? = some (.lst (row.map W.int)) := by
  have h := numbers_post (mem := []) (ns := ns) (Q := fun w m => ∃ (row : List Int) (r : Nat), 0 < row.length ∧ w = .loc r ∧ m[r]? = some (.lst (row.map W.int))) (ex := fun _ _ => False) fun row m h1 h2 h3 => ⟨row, _, h1, rfl, listAt_some h2⟩
  cases e : F__law_numbers [.rol (ns.map W.int)] [] with
  | ok w m =>
    rw [e] at h
    obtain ⟨row, r, h1, rfl, h2⟩ := h
    exact ⟨row, m, r, h1, rfl, h2⟩
  | exc x m => rw [e] at h; exact h.elim
  | bad => rw [e] at h; exact h.elim
end Sh
set_option linter.all false
set_option maxRecDepth 100000
set_option maxHeartbeats 4000000
namespace Sh
open PySem PySem.Spec PyProof.Rows L2
def PR.Post {α : Type} (r : PR α) (Q : α → Nat → Prop) (E : PX → Nat → Prop) : Prop := match r with
  | .ok a n => Q a n
  | .ex x n => E x n
  | .bad => False
structure QQ where
  nx : PEnv → Nat → Prop
  rt : D → Nat → Prop
  bk : PEnv → Nat → Prop
  ct : PEnv → Nat → Prop
  ex : PX → PEnv → Nat → Prop
def QR.Post (r : QR) (q : QQ) : Prop := match r with
  | .nx e n => q.nx e n
  | .rt d n => q.rt d n
  | .bk e n => q.bk e n
  | .ct e n => q.ct e n
  | .ex x e n => q.ex x e n
  | .bad => False
theorem post_ok {α : Type} {r : PR α} {d : α} {n : Nat} (h : r.Post (fun a m => a = d ∧ m = n) (fun _ _ => False)) : r = .ok d n := by
  cases r with
  | ok a m => obtain ⟨rfl, rfl⟩ := h; rfl
  | ex x m => exact h.elim
  | bad => exact h.elim
theorem PR.Post.imp {α : Type} {r : PR α} {Q Q' : α → Nat → Prop} {E : PX → Nat → Prop} (h : r.Post Q E) (i : ∀ a n, Q a n → Q' a n) : r.Post Q' E := by
  cases r with
  | ok a m => exact i _ _ h
  | ex x m => exact h
  | bad => exact h
theorem qpost_rt {r : QR} {d : D} (h : r.Post ⟨fun _ _ => False, fun a _ => a = d, fun _ _ => False, fun _ _ => False, fun _ _ _ => False⟩) : ∃ n, r = .rt d n := by
  cases r with
  | rt a m => cases h; exact ⟨m, rfl⟩
  | _ => exact h.elim
section
variable {α β : Type} {Q : α → Nat → Prop} {E : PX → Nat → Prop} {n : Nat} {pe : PEnv}
theorem pp_ok {a : α} : (PR.ok a n).Post Q E = Q a n := rfl
theorem pp_ex {x : PX} : (PR.ex x n : PR α).Post Q E = E x n := rfl
theorem pp_bad : (PR.bad : PR α).Post Q E = False := rfl
theorem pp_pure {a : α} : (PM.pure a n).Post Q E = Q a n := rfl
theorem pp_bind {x : PM β} {f : β → PM α} : (PM.bind x f n).Post Q E = (x n).Post (fun a m => (f a m).Post Q E) E := by
  unfold PM.bind
  cases x n <;> rfl
theorem pp_pl {a : α} : (pl (some a) n).Post Q E = Q a n := rfl
theorem pp_pl0 : (pl (none : Option α) n).Post Q E = False := rfl
end
section
variable {Q : D → Nat → Prop} {E : PX → Nat → Prop} {n : Nat} {pe : PEnv} {a b c : PE} {as : PA} {t u : PB}
theorem pp_vC {i : Nat} : (pvC i pe n).Post Q E = (match pe[i]? with | some (.C d) => Q d n | _ => False) := by
  unfold pvC
  cases pe[i]? with
  | none => rfl
  | some o => cases o <;> rfl
theorem pp_vO {i : Nat} : (pvO i pe n).Post Q E = (match pe[i]? with | some (.C d) => Q d n | some (.O d) => Q d n | _ => False) := by
  unfold pvO
  cases pe[i]? with
  | none => rfl
  | some o => cases o <;> rfl
theorem pp_K {d : D} : (pK d pe n).Post Q E = Q d n := rfl
theorem pp_bin {g : D → D → Option D} : (pbin g a b pe n).Post Q E = (a pe n).Post (fun x n => (b pe n).Post (fun y n => (pl (g x y) n).Post Q E) E) E := by
  unfold pbin; simp only [pp_bind]
theorem pp_un {g : D → Option D} : (pun g a pe n).Post Q E = (a pe n).Post (fun x n => (pl (g x) n).Post Q E) E := by
  unfold pun; simp only [pp_bind]
theorem pp_callN {g : List D → Option D} : (pcallN g as pe n).Post Q E = (as pe n).Post (fun x n => (pl (g x) n).Post Q E) E := by
  unfold pcallN; simp only [pp_bind]
theorem pp_callF {g : PFn} : (pcallF g as pe n).Post Q E = (as pe n).Post (fun x n => (g x n).Post Q E) E := by
  unfold pcallF; simp only [pp_bind]
theorem pp_nil {Q : List D → Nat → Prop} : (pnil pe n).Post Q E = Q [] n := rfl
theorem pp_cons {Q : List D → Nat → Prop} : (pcons a as pe n).Post Q E = (a pe n).Post (fun x n => (as pe n).Post (fun xs n => Q (x :: xs) n) E) E := by
  unfold pcons; simp only [pp_bind, pp_pure]
theorem pp_tup : (ptup as pe n).Post Q E = (as pe n).Post (fun xs n => Q (.tup xs) n) E := by
  unfold ptup; simp only [pp_bind, pp_pure]
theorem pp_lst : (plst as pe n).Post Q E = (as pe n).Post (fun xs n => Q (.lst xs) n) E := by
  unfold plst; simp only [pp_bind, pp_pure]
theorem pp_boolE : (pboolE a b c pe n).Post Q E = (a pe n).Post (fun d n => match pisB d with | some true => (b pe n).Post Q E | some false => (c pe n).Post Q E | none => False) E := by
  unfold pboolE
  rw [pp_bind]
  congr 1
  funext d m
  cases pisB d with
  | none => rfl
  | some x => cases x <;> rfl
theorem pp_andV : (pandV a b pe n).Post Q E = (a pe n).Post (fun d n => match pisB d with | some true => (b pe n).Post Q E | some false => Q (.bl false) n | none => False) E := pp_boolE
theorem pp_orV : (porV a b pe n).Post Q E = (a pe n).Post (fun d n => match pisB d with | some true => Q (.bl true) n | some false => (b pe n).Post Q E | none => False) E := pp_boolE
theorem pp_notV : (pnotV a pe n).Post Q E = (a pe n).Post (fun d n => match pisB d with | some true => Q (.bl false) n | some false => Q (.bl true) n | none => False) E := pp_boolE
theorem pp_ifE : (pifE t a b pe n).Post Q E = (t pe n).Post (fun x n => if x = true then (a pe n).Post Q E else (b pe n).Post Q E) E := by
  unfold pifE
  rw [pp_bind]
  congr 1
  funext x m
  cases x <;> rfl
theorem pp_tB {Q : Bool → Nat → Prop} : (ptB a pe n).Post Q E = (a pe n).Post (fun d n => match pisB d with | some b => Q b n | none => False) E := by
  unfold ptB
  rw [pp_bind]
  congr 1
  funext d m
  cases d <;> rfl
theorem pp_trB {Q : Bool → Nat → Prop} : (ptrB a pe n).Post Q E = (a pe n).Post (fun d n => match truD d with | some b => Q b n | none => False) E := by
  unfold ptrB
  rw [pp_bind]
  congr 1
  funext d m
  cases truD d <;> rfl
theorem pp_andB {Q : Bool → Nat → Prop} : (pandB t u pe n).Post Q E = (t pe n).Post (fun x n => if x = true then (u pe n).Post Q E else Q false n) E := by
  unfold pandB
  rw [pp_bind]
  congr 1
  funext x m
  cases x <;> rfl
theorem pp_orB {Q : Bool → Nat → Prop} : (porB t u pe n).Post Q E = (t pe n).Post (fun x n => if x = true then Q true n else (u pe n).Post Q E) E := by
  unfold porB
  rw [pp_bind]
  congr 1
  funext x m
  cases x <;> rfl
theorem pp_notB {Q : Bool → Nat → Prop} : (pnotB t pe n).Post Q E = (t pe n).Post (fun x n => Q (!x) n) E := by
  unfold pnotB; simp only [pp_bind, pp_pure]
theorem pp_yes {Q : Bool → Nat → Prop} : (pyes pe n).Post Q E = Q true n := rfl
theorem pp_chain {f g : D → D → Option D} : (pchain f g a b c pe n).Post Q E = (a pe n).Post (fun x n => (b pe n).Post (fun y n => (pl (f x y) n).Post (fun z n => match pisB z with | some true => (c pe n).Post (fun w n => (pl (g y w) n).Post Q E) E | some false => Q (.bl false) n | none => False) E) E) E := by
  unfold pchain
  simp only [pp_bind]
  congr 1
  funext x m
  congr 1
  funext y m
  congr 1
  funext z m
  cases pisB z with
  | none => rfl
  | some v => cases v with
    | true => simp only [pp_bind]
    | false => rfl
theorem pp_optN {Q : Option Int → Nat → Prop} : (poptE none pe n).Post Q E = Q none n := rfl
theorem pp_optS {Q : Option Int → Nat → Prop} : (poptE (some a) pe n).Post Q E = (a pe n).Post (fun d n => match d with | .int i => Q (some i) n | _ => False) E := by
  unfold poptE
  rw [pp_bind]
  congr 1
  funext d m
  cases d <;> rfl
theorem pp_sl {lo hi : Option PE} : (psl a lo hi pe n).Post Q E = (a pe n).Post (fun x n => (poptE lo pe n).Post (fun l n => (poptE hi pe n).Post (fun h n => (pl (slD l h x) n).Post Q E) E) E) E := by
  unfold psl; simp only [pp_bind]
theorem pp_strM {g : D → D → Option D} : (pstrM g a b pe n).Post Q E = (a pe n).Post (fun x n => pisS x = true ∧ (b pe n).Post (fun y n => (pl (g x y) n).Post Q E) E) E := by
  unfold pstrM
  rw [pp_bind]
  congr 1
  funext x m
  by_cases h : pisS x = true
  · rw [if_pos h]; simp only [pp_bind, h, true_and]
  · rw [if_neg h]; exact propext ⟨fun z => z.elim, fun z => h z.1⟩
theorem pp_fsN {acc : Str} : (pfsL [] acc pe n).Post Q E = Q (.str acc) n := rfl
theorem pp_fsC {p : PE} {ps : List PE} {acc : Str} : (pfsL (p :: ps) acc pe n).Post Q E = (p pe n).Post (fun d n => match d with | .str y => (acc ++ y).length ≤ sizeLine ∧ (pfsL ps (acc ++ y) pe n).Post Q E | _ => False) E := by
  show (PM.bind _ _ n).Post Q E = _
  rw [pp_bind]
  congr 1
  funext d m
  cases d with
  | str y =>
    dsimp only
    by_cases h : (acc ++ y).length ≤ sizeLine
    · rw [if_pos h]; simp only [h, true_and]
    · rw [if_neg h]; simp only [pp_bad, h, false_and]
  | _ => rfl
theorem pp_seq {Q : List D → Nat → Prop} : (pseq a pe n).Post Q E = (a pe n).Post (fun d n => (pl (itemsD d) n).Post Q E) E := by
  unfold pseq; simp only [pp_bind]
theorem pp_rng1 {Q : List D → Nat → Prop} : (prng1 as pe n).Post Q E = (as pe n).Post (fun ds n => match ds with | [.int j] => (-(2 ^ 62) ≤ j ∧ j < 2 ^ 62) ∧ Q (rgD 0 j.toNat) n | _ => False) E := by
  unfold prng1
  rw [pp_bind]
  congr 1
  funext ds m
  match ds with
  | [] => rfl
  | d :: _ :: _ => cases d <;> rfl
  | [d] =>
    cases d with
    | int j =>
      dsimp only
      by_cases h : -(2 ^ 62) ≤ j ∧ j < 2 ^ 62
      · rw [if_pos ⟨by omega, h⟩]; exact propext ⟨fun q => ⟨h, q⟩, fun q => q.2⟩
      · rw [if_neg fun q => h q.2]; exact propext ⟨fun q => q.elim, fun q => (h q.1).elim⟩
    | _ => rfl
theorem pp_enum {Q : List D → Nat → Prop} : (penum as pe n).Post Q E = (as pe n).Post (fun ds n => match ds with | [d] => (match itemsD d with | some xs => Q (enD 0 xs) n | none => False) | _ => False) E := by
  unfold penum
  rw [pp_bind]
  congr 1
  funext ds m
  match ds with
  | [] => rfl
  | [d] =>
    dsimp only
    cases itemsD d <;> rfl
  | _ :: _ :: _ => rfl
theorem pp_zip {Q : List D → Nat → Prop} : (pzip as pe n).Post Q E = (as pe n).Post (fun ds n => match ds with | [d, e] => (match itemsD d, itemsD e with | some xs, some ys => Q (zipD xs ys) n | _, _ => False) | _ => False) E := by
  unfold pzip
  rw [pp_bind]
  congr 1
  funext ds m
  match ds with
  | [] => rfl
  | [_] => rfl
  | [d, e] =>
    dsimp only
    cases itemsD d with
    | none => rfl
    | some _ => cases itemsD e <;> rfl
  | _ :: _ :: _ :: _ => rfl
theorem pp_lr : (plr a pe n).Post Q E = (a pe n).Post (fun d n => match d with | .int k => (0 ≤ k ∧ k ≤ 16777216) ∧ Q (.lst (rgD 0 k.toNat)) n | _ => False) E := by
  unfold plr
  rw [pp_bind]
  congr 1
  funext d m
  cases d with
  | int k =>
    dsimp only
    by_cases h : 0 ≤ k ∧ k ≤ 16777216
    · rw [if_pos h]; exact propext ⟨fun q => ⟨h, q⟩, fun q => q.2⟩
    · rw [if_neg h]; exact propext ⟨fun q => q.elim, fun q => (h q.1).elim⟩
  | _ => rfl
theorem pp_lc {it : PI} {g : PG} {e : PE} {vs : List Nat} : (plc it g t e vs pe n).Post Q E = (it pe n).Post (fun xs n => xs.length < 16777216 ∧ (plcL g t e (pwipe pe vs) xs [] n).Post Q E) E := by
  unfold plc
  rw [pp_bind]
  congr 1
  funext xs m
  by_cases h : xs.length < 16777216
  · rw [if_pos h]; simp only [h, true_and]
  · rw [if_neg h]; simp only [pp_bad, h, false_and]
end
section
variable {q : QQ} {n : Nat} {pe : PEnv} {m : PE} {s t : PS}
theorem ps_ofE0 {α : Type} {m : PEnv → PM α} {k : α → PS} : (pofE m k pe n).Post q = (m pe n).Post (fun d n => (k d pe n).Post q) (fun x n => q.ex x pe n) := by
  unfold pofE
  cases m pe n <;> rfl
theorem qs_sq : (psq s t pe n).Post q = (s pe n).Post ⟨fun e n => (t e n).Post q, q.rt, q.bk, q.ct, q.ex⟩ := by
  unfold psq
  cases s pe n <;> rfl
theorem qs_nx : (pnx pe n).Post q = q.nx pe n := rfl
theorem qs_bk : (pbk pe n).Post q = q.bk pe n := rfl
theorem qs_ct : (pct pe n).Post q = q.ct pe n := rfl
theorem qs_ret : (pret m pe n).Post q = (m pe n).Post q.rt (fun x n => q.ex x pe n) := ps_ofE0
theorem qs_retN : (pretN pe n).Post q = q.rt .non n := rfl
theorem qs_drop : (pdrop m pe n).Post q = (m pe n).Post (fun _ n => q.nx pe n) (fun x n => q.ex x pe n) := ps_ofE0
theorem qs_set {i : Nat} : (pset i m pe n).Post q = (m pe n).Post (fun d n => q.nx (pe.set i (.C d)) n) (fun x n => q.ex x pe n) := ps_ofE0
theorem qs_setO {i : Nat} : (psetO i m pe n).Post q = (m pe n).Post (fun d n => q.nx (pe.set i (.O d)) n) (fun x n => q.ex x pe n) := ps_ofE0
theorem qs_if {b : PB} : (pif b s t pe n).Post q = (b pe n).Post (fun c n => if c = true then (s pe n).Post q else (t pe n).Post q) (fun x n => q.ex x pe n) := by
  unfold pif
  rw [ps_ofE0]
  congr 1
  funext c k
  cases c <;> rfl
theorem qs_frz {i : Nat} : (pfrz i pe n).Post q = (match pe[i]? with | some (.O d) => q.nx (pe.set i (.C d)) n | some (.C _) => q.nx pe n | _ => False) := by
  unfold pfrz
  cases pe[i]? with
  | none => rfl
  | some o => cases o <;> rfl
theorem qs_asg {g : PG} : (pasg m g pe n).Post q = (m pe n).Post (fun d n => match g d pe with | some e => q.nx e n | none => False) (fun x n => q.ex x pe n) := by
  unfold pasg
  rw [ps_ofE0]
  congr 1
  funext d k
  cases g d pe <;> rfl
theorem qs_par {i j : Nat} {as : PA} : (ppar i j as pe n).Post q = (as pe n).Post (fun ds n => match ds with | [v, w] => q.nx ((pe.set i (.C v)).set j (.C w)) n | _ => False) (fun x n => q.ex x pe n) := by
  unfold ppar
  rw [ps_ofE0]
  congr 1
  funext ds k
  match ds with
  | [] => rfl
  | [_] => rfl
  | [_, _] => rfl
  | _ :: _ :: _ :: _ => rfl
theorem qs_aug {i : Nat} {g : D → D → Option D} : (paug i g m pe n).Post q = (pbin g (pvO i) m pe n).Post (fun d n => q.nx (pe.set i (.C d)) n) (fun x n => q.ex x pe n) := qs_set
theorem qs_for {it : PI} {g : PG} : (pfor it g s pe n).Post q = (it pe n).Post (fun xs n => (ploop g s xs pe n).Post q) (fun x n => q.ex x pe n) := ps_ofE0
theorem qs_mut {i : Nat} {f : List D → List D → Option (List D)} {as : PA} : (pmut i f as pe n).Post q = (match pe[i]? with
    | some (.O (.lst xs)) => (as pe n).Post (fun ds n => match f xs ds with | some ys => q.nx (pe.set i (.O (.lst ys))) n | none => False) (fun x n => q.ex x pe n)
    | _ => False) := by
  unfold pmut
  cases pe[i]? with
  | none => rfl
  | some o => cases o with
    | no => rfl
    | C d => rfl
    | O d => cases d with
      | lst xs =>
        dsimp only
        rw [ps_ofE0]
        congr 1
        funext ds k
        cases f xs ds <;> rfl
      | _ => rfl
theorem qs_raise {C : Addr} {as : PA} : (praise C as pe n).Post q = (as pe n).Post (fun ds n => match ds with | [d] => q.ex ⟨C, some [("at", d)]⟩ pe n | _ => False) (fun x n => q.ex x pe n) := by
  unfold praise
  rw [ps_ofE0]
  congr 1
  funext ds k
  match ds with
  | [] => rfl
  | [_] => rfl
  | _ :: _ :: _ => rfl
theorem qr_run {k : Nat} {ds : List D} {Q : D → Nat → Prop} {E : PX → Nat → Prop} : (prun k s ds n).Post Q E = (s (pstart k ds) n).Post ⟨fun _ n => Q .non n, Q, fun _ _ => False, fun _ _ => False, fun x _ n => E x n⟩ := by
  unfold prun
  cases s (pstart k ds) n <;> rfl
theorem qs_loopN {g : PG} : (ploop g s [] pe n).Post q = q.nx pe n := rfl
theorem qs_loopC {g : PG} {x : D} {xs : List D} : (ploop g s (x :: xs) pe n).Post q = (match g x pe with
    | none => False
    | some e => (s e n).Post ⟨fun e n => (ploop g s xs e n).Post q, q.rt, q.nx, fun e n => (ploop g s xs e n).Post q, q.ex⟩) := by
  show QR.Post (match g x pe with | none => .bad | some e => _) q = _
  cases g x pe with
  | none => rfl
  | some e =>
    dsimp only
    cases s e n <;> rfl
/-- a loop by what holds behind i items -/
theorem qs_loop {g : PG} {xs : List D} (J : Nat → PEnv → Nat → Prop) {pe : PEnv} {n : Nat} (h0 : J 0 pe n)
    (hs : ∀ i x pe n, xs[i]? = some x → J i pe n → ∃ e, g x pe = some e ∧ (s e n).Post ⟨J (i + 1), q.rt, q.nx, J (i + 1), q.ex⟩)
    (hd : ∀ pe n, J xs.length pe n → q.nx pe n) : (ploop g s xs pe n).Post q := by
  have key : ∀ (ys : List D) (i : Nat) (pe : PEnv) (n : Nat), xs.drop i = ys → i ≤ xs.length → J i pe n → (ploop g s ys pe n).Post q := by
    intro ys
    induction ys with
    | nil =>
      intro i pe n hd0 hi j
      have : i = xs.length := by
        have h1 := congrArg List.length hd0
        rw [List.length_drop, List.length_nil] at h1
        omega
      subst this
      exact hd pe n j
    | cons y ys ih =>
      intro i pe n hd0 hi j
      have hl : i < xs.length := by
        have h1 := congrArg List.length hd0
        rw [List.length_drop, List.length_cons] at h1
        omega
      rw [List.drop_eq_getElem_cons hl] at hd0
      obtain ⟨h1, h2⟩ := List.cons.inj hd0
      obtain ⟨e, g1, b1⟩ := hs i y pe n (by rw [List.getElem?_eq_getElem hl, h1]) j
      rw [qs_loopC, g1]
      dsimp only
      cases eb : s e n with
      | nx e2 n2 => rw [eb] at b1; exact ih (i + 1) e2 n2 h2 hl b1
      | ct e2 n2 => rw [eb] at b1; exact ih (i + 1) e2 n2 h2 hl b1
      | bk e2 n2 => rw [eb] at b1; exact b1
      | rt d n2 => rw [eb] at b1; exact b1
      | ex x e2 n2 => rw [eb] at b1; exact b1
      | bad => rw [eb] at b1; exact b1
  exact key xs 0 pe n rfl (Nat.zero_le _) h0
end
section
variable {g : PG} {t : PB} {e : PE} {pe : PEnv}
/-- a comprehension whose parts draw nothing -/
theorem plcL_eq {n : Nat} {f : D → D} {c : D → Bool} : ∀ {xs acc : List D}, (∀ x ∈ xs, ∃ pe1, g x pe = some pe1 ∧ t pe1 n = .ok (c x) n ∧ (c x = true → e pe1 n = .ok (f x) n)) → plcL g t e pe xs acc n = .ok (.lst (acc ++ (xs.filter c).map f)) n
  | [], acc, _ => by rw [List.filter_nil, List.map_nil, List.append_nil]; rfl
  | x :: xs, acc, h => by
    obtain ⟨pe1, h1, h2, h3⟩ := h x List.mem_cons_self
    unfold plcL
    rw [h1]
    dsimp only
    rw [h2]
    by_cases hc : c x = true
    · rw [hc]
      dsimp only
      rw [h3 hc]
      dsimp only
      rw [plcL_eq fun y hy => h y (List.mem_cons_of_mem _ hy), List.filter_cons_of_pos hc, List.map_cons, List.append_assoc]
      rfl
    · have hf : c x = false := by cases hh : c x with | true => exact absurd hh hc | false => rfl
      rw [hf]
      dsimp only
      rw [plcL_eq fun y hy => h y (List.mem_cons_of_mem _ hy), List.filter_cons_of_neg hc]
end
open Classical in
/-- data without bools; n: how deep -/
def Gd : Nat → D → Prop
  | 0, _ => False
  | k + 1, d => match d with
    | .non => True
    | .int _ => True
    | .str z => PyData.strOk z = true
    | .tup xs => ∀ x ∈ xs, Gd k x
    | .lst xs => ∀ x ∈ xs, Gd k x
    | _ => False
theorem Gd.mono : ∀ {k j : Nat} {d : D}, Gd k d → k ≤ j → Gd j d
  | 0, _, _, h, _ => h.elim
  | k + 1, 0, _, _, l => by omega
  | k + 1, j + 1, d, h, l => by
    cases d with
    | tup xs => exact fun x hx => Gd.mono (h x hx) (by omega)
    | lst xs => exact fun x hx => Gd.mono (h x hx) (by omega)
    | non => exact h
    | int i => exact h
    | str z => exact h
    | _ => exact h.elim
theorem shaped_of {d : PyData} (h : PyData.canLay0 d = true) (hd : PyData.depth d ≤ 64) : SeqAt.shaped d = true := by
  show (PyData.canLay0 d && decide (PyData.depth d ≤ 64)) = true
  rw [h, decide_eq_true hd]
  rfl
theorem toP_gd : ∀ (k m : Nat) (d : D), Gd k d → k ≤ m → ∃ e, toP m d = some e ∧ PyData.canLay0 e = true ∧ PyData.depth e ≤ k
  | 0, _, _, h, _ => h.elim
  | k + 1, 0, _, _, l => by omega
  | k + 1, m + 1, d, h, l => by
    have lists : ∀ xs : List D, (∀ x ∈ xs, Gd k x) → ∃ es, xs.mapM (toP m) = some es ∧ PyData.canLayAll0 es = true ∧ PyData.depthAll es ≤ k := by
      intro xs
      induction xs with
      | nil => exact fun _ => ⟨[], rfl, by simp [PyData.canLayAll0], by simp [PyData.depthAll]⟩
      | cons x xs ih =>
        intro hx
        obtain ⟨e, h1, h2, h3⟩ := toP_gd k m x (hx x List.mem_cons_self) (by omega)
        obtain ⟨es, g1, g2, g3⟩ := ih fun y hy => hx y (List.mem_cons_of_mem _ hy)
        refine ⟨e :: es, ?_, ?_, ?_⟩
        · rw [List.mapM_cons, h1, g1]; rfl
        · simp [PyData.canLayAll0, h2, g2]
        · simp only [PyData.depthAll]; omega
    cases d with
    | non => exact ⟨.none, rfl, by simp [PyData.canLay0], by simp [PyData.depth]⟩
    | int i => exact ⟨.int i, rfl, by simp [PyData.canLay0], by simp [PyData.depth]⟩
    | str z => exact ⟨.str z, rfl, by simp only [PyData.canLay0]; exact h, by simp [PyData.depth]⟩
    | tup xs =>
      obtain ⟨es, g1, g2, g3⟩ := lists xs h
      refine ⟨.tuple es, ?_, by simp only [PyData.canLay0]; exact g2, by simp only [PyData.depth]; omega⟩
      show (xs.mapM (toP m)).map PyData.tuple = _
      rw [g1]
      rfl
    | lst xs =>
      obtain ⟨es, g1, g2, g3⟩ := lists xs h
      refine ⟨.list es, ?_, by simp only [PyData.canLay0]; exact g2, by simp only [PyData.depth]; omega⟩
      show (xs.mapM (toP m)).map PyData.list = _
      rw [g1]
      rfl
    | _ => exact h.elim
theorem eqv_gd : ∀ (k m : Nat) (d d' : D) (e e' : PyData), Gd k d → Gd k d' → toP m d = some e → toP m d' = some e' → (PyData.eqv e e' = true ↔ d = d')
  | 0, _, _, _, _, _, h, _, _, _ => h.elim
  | k + 1, 0, _, _, _, _, _, _, h, _ => by cases h
  | k + 1, m + 1, d, d', e, e', h, h', p, p' => by
    have lists : ∀ (xs ys : List D) (es fs : List PyData), (∀ x ∈ xs, Gd k x) → (∀ x ∈ ys, Gd k x) → xs.mapM (toP m) = some es → ys.mapM (toP m) = some fs → (PyData.eqvAll es fs = true ↔ xs = ys) := by
      intro xs
      induction xs with
      | nil =>
        intro ys es fs _ _ e1 e2
        cases e1
        cases ys with
        | nil => cases e2; simp [PyData.eqvAll]
        | cons y ys =>
          obtain ⟨a, r, _, _, rfl⟩ := mapM_cons_some e2
          simp [PyData.eqvAll]
      | cons x xs ih =>
        intro ys es fs hx hy e1 e2
        obtain ⟨a, r, g1, g2, rfl⟩ := mapM_cons_some e1
        cases ys with
        | nil => cases e2; simp [PyData.eqvAll]
        | cons y ys =>
          obtain ⟨a', r', g1', g2', rfl⟩ := mapM_cons_some e2
          have i1 := eqv_gd k m x y a a' (hx x List.mem_cons_self) (hy y List.mem_cons_self) g1 g1'
          have i2 := ih ys r r' (fun z hz => hx z (List.mem_cons_of_mem _ hz)) (fun z hz => hy z (List.mem_cons_of_mem _ hz)) g2 g2'
          simp only [PyData.eqvAll, Bool.and_eq_true, i1, i2, List.cons.injEq]
    have tl : ∀ {xs : List D} {z : PyData} {f : List PyData → PyData}, (xs.mapM (toP m)).map f = some z → ∃ es, xs.mapM (toP m) = some es ∧ z = f es := fun {xs z f} h => by
      cases hm : xs.mapM (toP m) with
      | none => rw [hm] at h; cases h
      | some es => rw [hm] at h; cases h; exact ⟨es, rfl, rfl⟩
    cases d with
    | non => cases p; cases d' with
      | non => cases p'; simp [PyData.eqv]
      | int _ => cases p'; simp [PyData.eqv]
      | str _ => cases p'; simp [PyData.eqv]
      | tup _ => obtain ⟨_, _, rfl⟩ := tl p'; simp [PyData.eqv]
      | lst _ => obtain ⟨_, _, rfl⟩ := tl p'; simp [PyData.eqv]
      | _ => exact h'.elim
    | int i => cases p; cases d' with
      | non => cases p'; simp [PyData.eqv]
      | int _ => cases p'; simp [PyData.eqv]
      | str _ => cases p'; simp [PyData.eqv]
      | tup _ => obtain ⟨_, _, rfl⟩ := tl p'; simp [PyData.eqv]
      | lst _ => obtain ⟨_, _, rfl⟩ := tl p'; simp [PyData.eqv]
      | _ => exact h'.elim
    | str i => cases p; cases d' with
      | non => cases p'; simp [PyData.eqv]
      | int _ => cases p'; simp [PyData.eqv]
      | str _ => cases p'; simp [PyData.eqv]
      | tup _ => obtain ⟨_, _, rfl⟩ := tl p'; simp [PyData.eqv]
      | lst _ => obtain ⟨_, _, rfl⟩ := tl p'; simp [PyData.eqv]
      | _ => exact h'.elim
    | tup xs =>
      obtain ⟨es, p1, rfl⟩ := tl p
      cases d' with
      | non => cases p'; simp [PyData.eqv]
      | int _ => cases p'; simp [PyData.eqv]
      | str _ => cases p'; simp [PyData.eqv]
      | tup ys => obtain ⟨fs, p2, rfl⟩ := tl p'; simp only [PyData.eqv, lists xs ys es fs h h' p1 p2, D.tup.injEq]
      | lst _ => obtain ⟨_, _, rfl⟩ := tl p'; simp [PyData.eqv]
      | _ => exact h'.elim
    | lst xs =>
      obtain ⟨es, p1, rfl⟩ := tl p
      cases d' with
      | non => cases p'; simp [PyData.eqv]
      | int _ => cases p'; simp [PyData.eqv]
      | str _ => cases p'; simp [PyData.eqv]
      | tup _ => obtain ⟨_, _, rfl⟩ := tl p'; simp [PyData.eqv]
      | lst ys => obtain ⟨fs, p2, rfl⟩ := tl p'; simp only [PyData.eqv, lists xs ys es fs h h' p1 p2, D.lst.injEq]
      | _ => exact h'.elim
    | _ => exact h.elim
open Classical in
theorem eqvD_gd {d d' : D} (h : Gd 60 d) (h' : Gd 60 d') : eqvD d d' = some (decide (d = d')) := by
  obtain ⟨e, h1, h2, h3⟩ := toP_gd 60 65 d h (by omega)
  obtain ⟨e', g1, g2, g3⟩ := toP_gd 60 65 d' h' (by omega)
  unfold eqvD
  rw [h1, g1]
  dsimp only
  rw [shaped_of h2 (by omega), shaped_of g2 (by omega)]
  simp only [Bool.and_self, if_true, Option.some.injEq]
  rw [Bool.eq_iff_iff, decide_eq_true_iff]
  exact eqv_gd 60 65 d d' e e' h h' h1 g1
open Classical in
theorem eqD_gd {d d' : D} (h : Gd 60 d) (h' : Gd 60 d') : eqD d d' = some (.bl (decide (d = d'))) := by
  unfold eqD
  rw [eqvD_gd h h']
  rfl
open Classical in
theorem neD_gd {d d' : D} (h : Gd 60 d) (h' : Gd 60 d') : neD d d' = some (.bl (!decide (d = d'))) := by
  unfold neD
  rw [eqvD_gd h h']
  rfl
end Sh
set_option linter.all false
set_option maxRecDepth 100000
set_option maxHeartbeats 4000000
namespace Sh
open PySem PySem.Spec PyProof.Rows L2
local macro_rules | `(tactic| walk_at "pp") => `(tactic| try simp only [qr_run, qs_sq, qs_nx, qs_bk, qs_ct, qs_ret, qs_retN, qs_drop, qs_set, qs_setO, qs_if, qs_frz, qs_asg, qs_par, qs_aug, qs_for, qs_mut, qs_raise, qs_loopN, pp_ok, pp_ex, pp_bad, pp_pure, pp_bind, pp_pl, pp_pl0, pp_vC, pp_vO, pp_K, pp_bin, pp_un, pp_callN, pp_callF, pp_nil, pp_cons, pp_tup, pp_lst, pp_andV, pp_orV, pp_notV, pp_ifE, pp_tB, pp_trB, pp_andB, pp_orB, pp_notB, pp_yes, pp_chain, pp_optN, pp_optS, pp_sl, pp_strM, pp_fsN, pp_fsC, pp_seq, pp_rng1, pp_enum, pp_zip, pp_lr, pp_lc, pstart, pgN, pgNil, pgCons, pgSeq, itemsD, pwipe, pisB, pisS, Option.bind, List.map_cons, List.map_nil, List.length_cons, List.length_nil, List.getElem?_cons_zero, List.getElem?_cons_succ, List.cons_append, List.nil_append, List.set_cons_zero, List.set_cons_succ, List.replicate_succ, List.replicate_zero, Nat.reduceSub, Nat.reduceAdd, Nat.zero_add, if_true, if_false, Bool.false_eq_true, Bool.not_true, Bool.not_false, reduceIte, true_and, and_true])
local macro_rules | `(tactic| walk_at "pd") => `(tactic| all_goals first | exact ⟨rfl, rfl⟩ | exact ⟨rfl, trivial⟩ | exact trivial | rfl | assumption | (simp; done))
theorem drw_lt {row : List Int} {n : Nat} {lim : Int} (h : 0 < lim) : 0 ≤ drw row n lim ∧ drw row n lim < lim := by
  unfold drw
  split
  · exact ⟨Int.emod_nonneg _ (by omega), Int.emod_lt_of_pos _ h⟩
  · exact ⟨Int.emod_nonneg _ (by omega), Int.emod_lt_of_pos _ h⟩
theorem mapM_int : ∀ is : List Int, (is.map D.int).mapM intDI = some is
  | [] => rfl
  | i :: is => by rw [List.map_cons, List.mapM_cons, mapM_int is]; rfl
/-- the row of the draws -/
abbrev rowD (row : List Int) : D := .lst (row.map D.int)
theorem take_eq {row : List Int} {lim : Int} {n : Nat} (hr : 0 < row.length) (hl : 0 < lim) : P__law_take [rowD row, .spt, .int lim] n = .ok (.int (drw row n lim)) (n + 1) := by
  show (match (row.map D.int).mapM intDI with | some is => if 0 < is.length ∧ 0 < lim then PR.ok (D.int (drw is n lim)) (n + 1) else .bad | none => .bad) = _
  rw [mapM_int]
  dsimp only
  rw [if_pos ⟨hr, hl⟩]
theorem take_pp {row : List Int} {lim : Int} {n : Nat} {Q : D → Nat → Prop} {E : PX → Nat → Prop} (hr : 0 < row.length) (hl : 0 < lim) (h : ∀ v n, 0 ≤ v → v < lim → Q (.int v) n) : (P__law_take [rowD row, .spt, .int lim] n).Post Q E := by
  rw [take_eq hr hl]
  exact h _ _ (drw_lt hl).1 (drw_lt hl).2
theorem lenD_items {d : D} {xs : List D} (h : itemsD d = some xs) : lenD [d] = some (.int xs.length) := by
  cases d with
  | tup ys => cases h; rfl
  | lst ys => cases h; rfl
  | _ => cases h
theorem ixD_items {d : D} {xs : List D} {i : Int} (h : itemsD d = some xs) : ixD d (.int i) = atI xs i := by
  cases d with
  | tup ys => cases h; rfl
  | lst ys => cases h; rfl
  | _ => cases h
/-- the numbers below n, in some sequence -/
def rng (n : Nat) : List Int := (List.range n).map fun i => ((i : Nat) : Int)
theorem ixN_nat {n : Nat} {i : Int} (h0 : 0 ≤ i) (h1 : i < n) : ixN n i = some i.toNat := by
  unfold ixN
  rw [if_pos h0, if_pos h1]
theorem rgD_eq (n : Nat) : rgD 0 n = ((List.range n).map fun i => ((i : Nat) : Int)).map D.int := by
  unfold rgD
  rw [List.map_map]
  congr 1
  funext i
  show D.int (0 + (i : Int)) = D.int (i : Int)
  rw [Int.zero_add]
theorem sizeL : sizeLine = 16777216 := sizeLine_eq
end Sh
set_option linter.all false
set_option maxRecDepth 100000
set_option maxHeartbeats 4000000
namespace Sh
open PySem PySem.Spec PyProof.Rows L2
local macro_rules | `(tactic| walk_at "pp") => `(tactic| try simp only [qr_run, qs_sq, qs_nx, qs_bk, qs_ct, qs_ret, qs_retN, qs_drop, qs_set, qs_setO, qs_if, qs_frz, qs_asg, qs_par, qs_aug, qs_for, qs_mut, qs_raise, qs_loopN, pp_ok, pp_ex, pp_bad, pp_pure, pp_bind, pp_pl, pp_pl0, pp_vC, pp_vO, pp_K, pp_bin, pp_un, pp_callN, pp_callF, pp_nil, pp_cons, pp_tup, pp_lst, pp_andV, pp_orV, pp_notV, pp_ifE, pp_tB, pp_trB, pp_andB, pp_orB, pp_notB, pp_yes, pp_chain, pp_optN, pp_optS, pp_sl, pp_strM, pp_fsN, pp_fsC, pp_seq, pp_rng1, pp_enum, pp_zip, pp_lr, pp_lc, pstart, pgN, pgNil, pgCons, pgSeq, itemsD, pwipe, pisB, pisS, Option.bind, List.map_cons, List.map_nil, List.length_cons, List.length_nil, List.getElem?_cons_zero, List.getElem?_cons_succ, List.cons_append, List.nil_append, List.set_cons_zero, List.set_cons_succ, List.replicate_succ, List.replicate_zero, Nat.reduceSub, Nat.reduceAdd, Nat.zero_add, if_true, if_false, Bool.false_eq_true, Bool.not_true, Bool.not_false, reduceIte, true_and, and_true])
local macro_rules | `(tactic| walk_at "pd") => `(tactic| all_goals first | exact ⟨rfl, rfl⟩ | exact ⟨rfl, trivial⟩ | exact trivial | rfl | assumption | (simp; done))
theorem gd_int {k : Nat} {i : Int} : Gd (k + 1) (.int i) := trivial
theorem gd_str {k : Nat} {z : Str} (h : PyData.strOk z = true) : Gd (k + 1) (.str z) := h
theorem eqD_int {a b : Int} : eqD (.int a) (.int b) = some (.bl (a == b)) := by
  rw [eqD_gd gd_int gd_int]
  congr 2
  rw [Bool.eq_iff_iff]
  simp
theorem neD_int {a b : Int} : neD (.int a) (.int b) = some (.bl (!(a == b))) := by
  rw [neD_gd gd_int gd_int]
  congr 3
  rw [Bool.eq_iff_iff]
  simp
theorem eqD_str {a b : Str} (ha : PyData.strOk a = true) (hb : PyData.strOk b = true) : eqD (.str a) (.str b) = some (.bl (a == b)) := by
  rw [eqD_gd (gd_str ha) (gd_str hb)]
  congr 2
  rw [Bool.eq_iff_iff]
  simp
theorem getM {α β : Type} {xs : List α} {f : α → β} {k : Nat} {x : β} (h : (xs.map f)[k]? = some x) : ∃ y, xs[k]? = some y ∧ x = f y := by
  rw [List.getElem?_map] at h
  cases e : xs[k]? with
  | none => rw [e] at h; cases h
  | some y => rw [e] at h; cases h; exact ⟨y, rfl, rfl⟩
theorem ix_itemsD {d : D} {es : List D} {i : Nat} {x : D} (h : itemsD d = some es) (hx : es[i]? = some x) : ixD d (.int (i : Nat)) = some x := by
  have hl : i < es.length := (List.getElem?_eq_some_iff.mp hx).1
  rw [ixD_items h]
  unfold atI
  rw [ixN_nat (by omega) (by omega)]
  show es[((i : Nat) : Int).toNat]? = _
  rw [Int.toNat_natCast]
  exact hx
def isI : D → Bool
  | .int _ => true
  | _ => false
/-- the values that a program is handed -/
def Pv : D → Bool
  | .non => true | .bl _ => true | .int _ => true | .str _ => true | .tup _ => true | .lst _ => true | _ => false
def isT : D → Bool
  | .tup _ => true
  | _ => false
def isBo : D → Bool
  | .bl _ => true
  | _ => false
theorem k_int {d : D} (h : Pv d = true) : isiD [d, .ty "int"] = some (.bl (isI d || isBo d)) := by
  cases d <;> first | rfl | cases h
theorem k_bool {d : D} (h : Pv d = true) : isiD [d, .ty "bool"] = some (.bl (isBo d)) := by
  cases d <;> first | rfl | cases h
theorem k_tup {d : D} (h : Pv d = true) : isiD [d, .ty "tuple"] = some (.bl (isT d)) := by
  cases d <;> first | rfl | cases h
theorem k_str {d : D} (h : Pv d = true) : isiD [d, .ty "str"] = some (.bl (pisS d)) := by
  cases d <;> first | rfl | cases h
theorem eqR_bl {a : Bool} : eqD (.bl a) (.bl a) = some (.bl true) := by
  unfold eqD eqvD
  show Option.map D.bl (if (SeqAt.shaped (.bool a) && SeqAt.shaped (.bool a)) = true then some (PyData.eqv (.bool a) (.bool a)) else none) = _
  have h : SeqAt.shaped (.bool a) = true := by
    show (PyData.canLay0 (.bool a) && decide (PyData.depth (.bool a) ≤ 64)) = true
    simp [PyData.canLay0, PyData.depth]
  rw [h]
  simp [PyData.eqv]
theorem rgD_map2 (n : Nat) : rgD 0 n = (List.range n).map fun i => D.int ((i : Nat) : Int) := by
  rw [rgD_eq, List.map_map]
  rfl
/-- what the law compares: nothing, truth values, numbers, texts, tuples -/
def To : Nat → D → Prop
  | 0, _ => False
  | k + 1, d => match d with
    | .non => True
    | .bl _ => True
    | .int _ => True
    | .str z => PyData.strOk z = true
    | .tup xs => xs.length ≤ 100000 ∧ ∀ x ∈ xs, To k x
    | _ => False
theorem To.pv {k : Nat} {d : D} (h : To k d) : Pv d = true := by
  cases k with
  | zero => exact h.elim
  | succ k => cases d <;> first | rfl | exact h.elim
theorem so_step {g : PFn} {k n : Nat} {d : D} (hd : To (k + 1) d) (hg : ∀ x, To k x → g [x, x] n = .ok (.bl true) n) : prun 3 (p__law_so g) [d, d] n = .ok (.bl true) n := by
  have hv := hd.pv
  unfold p__law_so
  refine post_ok ?_
  walk_at "pp"
  rw [show isD d .non = some (.bl (nonD d)) from rfl]
  walk_at "pp"
  cases d with
  | non =>
    rw [show nonD .non = true from rfl]
    walk_at "pp"
  | bl b =>
    rw [show nonD (.bl b) = false from rfl]
    walk_at "pp"
    rw [k_tup rfl, k_bool rfl]
    simp only [isT, isBo]
    walk_at "pp"
    rw [eqR_bl]
    walk_at "pp"
    walk_at "pd"
  | int i =>
    rw [show nonD (.int i) = false from rfl]
    walk_at "pp"
    rw [k_tup rfl, k_bool rfl, k_int rfl]
    simp only [isT, isBo, isI]
    walk_at "pp"
    rw [eqD_int]
    simp
    walk_at "pp"
    walk_at "pd"
  | str z =>
    rw [show nonD (.str z) = false from rfl]
    walk_at "pp"
    rw [k_tup rfl, k_bool rfl, k_int rfl, k_str rfl]
    simp only [isT, isBo, isI]
    walk_at "pp"
    rw [eqD_str hd hd]
    simp
    walk_at "pp"
    walk_at "pd"
  | tup xs =>
    rw [show nonD (.tup xs) = false from rfl]
    walk_at "pp"
    rw [k_tup rfl, lenD_items (d := .tup xs) rfl]
    simp only [isT]
    walk_at "pp"
    rw [neD_int]
    simp only [beq_self_eq_true]
    walk_at "pp"
    have hl := hd.1
    refine ⟨⟨by omega, by omega⟩, ?_⟩
    rw [Int.toNat_natCast]
    refine qs_loop (fun k pe m => m = n ∧ ∃ a, pe = [.C (.tup xs), .C (.tup xs), a]) ⟨rfl, _, rfl⟩ ?_ ?_
    · rintro i x pe m hx ⟨rfl, a, rfl⟩
      rw [rgD_map2] at hx
      obtain ⟨j, hj, rfl⟩ := getM hx
      obtain ⟨hl', hj⟩ := List.getElem?_eq_some_iff.mp hj
      rw [List.getElem_range] at hj
      subst hj
      rw [List.length_range] at hl'
      have hx : xs[i]? = some xs[i] := List.getElem?_eq_getElem hl'
      refine ⟨[.C (.tup xs), .C (.tup xs), .C (.int i)], rfl, ?_⟩
      walk_at "pp"
      rw [show ixD (.tup xs) (.int (i : Nat)) = some xs[i] from ix_itemsD rfl hx]
      walk_at "pp"
      rw [hg _ (hd.2 _ (List.getElem_mem hl'))]
      walk_at "pp"
      exact ⟨_, rfl⟩
    · rintro pe m ⟨rfl, a, rfl⟩
      walk_at "pp"
  | _ => exact hd.elim
theorem so_refl : ∀ {k n : Nat} {d : D}, To k d → P__law_so k [d, d] n = .ok (.bl true) n
  | 0, _, _, h => h.elim
  | k + 1, n, d, h => so_step (g := P__law_so k) h fun x hx => so_refl hx
theorem sq_mid {s t : PS} {pe : PEnv} {n : Nat} {q : QQ} {J : PEnv → Nat → Prop} (h : (s pe n).Post ⟨J, q.rt, q.bk, q.ct, q.ex⟩) (k : ∀ e n, J e n → (t e n).Post q) : (psq s t pe n).Post q := by
  rw [qs_sq]
  cases e : s pe n with
  | nx e n => rw [e] at h; exact k _ _ h
  | rt d n => rw [e] at h; exact h
  | bk e n => rw [e] at h; exact h
  | ct e n => rw [e] at h; exact h
  | ex x e n => rw [e] at h; exact h
  | bad => rw [e] at h; exact h
end Sh
set_option linter.all false
set_option maxRecDepth 100000
set_option maxHeartbeats 4000000
namespace Sh
open PySem PySem.Spec PyProof.Rows L2
local macro_rules | `(tactic| walk_at "pp") => `(tactic| try simp only [qr_run, qs_sq, qs_nx, qs_bk, qs_ct, qs_ret, qs_retN, qs_drop, qs_set, qs_setO, qs_if, qs_frz, qs_asg, qs_par, qs_aug, qs_for, qs_mut, qs_raise, qs_loopN, pp_ok, pp_ex, pp_bad, pp_pure, pp_bind, pp_pl, pp_pl0, pp_vC, pp_vO, pp_K, pp_bin, pp_un, pp_callN, pp_callF, pp_nil, pp_cons, pp_tup, pp_lst, pp_andV, pp_orV, pp_notV, pp_ifE, pp_tB, pp_trB, pp_andB, pp_orB, pp_notB, pp_yes, pp_chain, pp_optN, pp_optS, pp_sl, pp_strM, pp_fsN, pp_fsC, pp_seq, pp_rng1, pp_enum, pp_zip, pp_lr, pp_lc, pstart, pgN, pgNil, pgCons, pgSeq, itemsD, pwipe, pisB, pisS, Option.bind, List.map_cons, List.map_nil, List.length_cons, List.length_nil, List.getElem?_cons_zero, List.getElem?_cons_succ, List.cons_append, List.nil_append, List.set_cons_zero, List.set_cons_succ, List.replicate_succ, List.replicate_zero, Nat.reduceSub, Nat.reduceAdd, Nat.zero_add, if_true, if_false, Bool.false_eq_true, Bool.not_true, Bool.not_false, reduceIte, true_and, and_true])
local macro_rules | `(tactic| walk_at "pd") => `(tactic| all_goals first | exact ⟨rfl, rfl⟩ | exact ⟨rfl, trivial⟩ | exact trivial | rfl | assumption | (simp; done))
def clsD : D → Option Addr
  | .ex0 C => some C
  | .ex1 C _ _ => some C
  | _ => none
theorem isx_eq {B : Addr} {Cs : List Addr} {e c : D} {C : Addr} (h : clsD e = some C) : isxD B Cs [e, c] = (xtabD B Cs C c).map D.bl := by
  cases e <;> first | (cases h; rfl) | cases h
section
variable {B c0 c1 c2 c3 c4 c5 c6 c7 : Addr}
theorem nd_inj {l : List Addr} (hl : l.Nodup) {i j : Nat} (hi : i < l.length) (hj : j < l.length) : l[i] = l[j] ↔ i = j := by
  refine ⟨fun h => ?_, fun h => by subst h; rfl⟩
  have hp := List.pairwise_iff_getElem.mp hl
  rcases Nat.lt_trichotomy i j with g | g | g
  · exact absurd h (hp i j hi hj g)
  · exact g
  · exact absurd h.symm (hp j i hj hi g)
theorem xt_at {l : List Addr} (hl : l.Nodup) (hB : B ∉ l) {i j : Nat} (hi : i < l.length) (hj : j < l.length) : xtabD B l l[i] (.ob l[j]) = some (decide (i = j)) := by
  unfold xtabD
  rw [if_pos (List.getElem_mem _)]
  dsimp only
  rw [if_neg (fun z : l[j] = B => hB (by rw [← z]; exact List.getElem_mem _)), if_pos (List.getElem_mem _)]
  congr 1
  exact decide_eq_decide.mpr (nd_inj hl hi hj)
theorem xt_base {l : List Addr} {i : Nat} (hi : i < l.length) : xtabD B l l[i] (.ob B) = some true := by
  unfold xtabD
  rw [if_pos (List.getElem_mem _)]
  dsimp only
  rw [if_pos rfl]
theorem xt_exc {l : List Addr} {i : Nat} (hi : i < l.length) : xtabD B l l[i] (.ty "Exception") = some true := by
  unfold xtabD
  rw [if_pos (List.getElem_mem _)]
  dsimp only
  rw [if_pos rfl]
theorem xt_for {l : List Addr} {i : Nat} (hi : i < l.length) {n : String} (hn : n ∈ foreigns) : xtabD B l l[i] (.ty n) = some false := by
  unfold xtabD
  rw [if_pos (List.getElem_mem _)]
  dsimp only
  rw [if_neg (fun z => by subst z; exact absurd hn (by decide)), if_pos hn]
abbrev cs8 (c0 c1 c2 c3 c4 c5 c6 c7 : Addr) : List Addr := [c0, c1, c2, c3, c4, c5, c6, c7]
def bls (i : Nat) : List D := (List.range 8).map fun j => D.bl (decide (i = j))
theorem law_of_eq (hl : (cs8 c0 c1 c2 c3 c4 c5 c6 c7).Nodup) (hB : B ∉ cs8 c0 c1 c2 c3 c4 c5 c6 c7) {i : Nat} (hi : i < 8) {e : D} (he : clsD e = (cs8 c0 c1 c2 c3 c4 c5 c6 c7)[i]?) {n : Nat} :
    P__law_of B c0 c1 c2 c3 c4 c5 c6 c7 [e] n = .ok (.lst (bls i)) n := by
  have he' : clsD e = some (cs8 c0 c1 c2 c3 c4 c5 c6 c7)[i] := by rw [he]; exact List.getElem?_eq_getElem hi
  have key : ∀ (j : Nat) (hj : j < 8), isxD B (cs8 c0 c1 c2 c3 c4 c5 c6 c7) [e, .ob (cs8 c0 c1 c2 c3 c4 c5 c6 c7)[j]] = some (.bl (decide (i = j))) := fun j hj => by
    rw [isx_eq he', xt_at hl hB hi hj]
    rfl
  have k0 := key 0 (by decide); have k1 := key 1 (by decide); have k2 := key 2 (by decide); have k3 := key 3 (by decide)
  have k4 := key 4 (by decide); have k5 := key 5 (by decide); have k6 := key 6 (by decide); have k7 := key 7 (by decide)
  simp only [cs8, List.getElem_cons_zero, List.getElem_cons_succ] at k0 k1 k2 k3 k4 k5 k6 k7
  unfold P__law_of p__law_of
  refine post_ok ?_
  walk_at "pp"
  rw [k0]; walk_at "pp"
  rw [k1]; walk_at "pp"
  rw [k2]; walk_at "pp"
  rw [k3]; walk_at "pp"
  rw [k4]; walk_at "pp"
  rw [k5]; walk_at "pp"
  rw [k6]; walk_at "pp"
  rw [k7]; walk_at "pp"
  rw [show addLD (.lst [.bl (decide (i = 0)), .bl (decide (i = 1)), .bl (decide (i = 2)), .bl (decide (i = 3))]) (.lst [.bl (decide (i = 4)), .bl (decide (i = 5)), .bl (decide (i = 6)), .bl (decide (i = 7))]) = some (.lst (bls i)) by
    unfold addLD
    dsimp only
    rw [if_pos (by rw [sizeLine_eq]; simp)]
    rfl]
  walk_at "pp"
  walk_at "pd"
theorem law_foreign_eq {i : Nat} (hi : i < 8) {e : D} (he : clsD e = (cs8 c0 c1 c2 c3 c4 c5 c6 c7)[i]?) {n : Nat} :
    P__law_foreign B c0 c1 c2 c3 c4 c5 c6 c7 [e] n = .ok (.bl false) n := by
  have he' : clsD e = some (cs8 c0 c1 c2 c3 c4 c5 c6 c7)[i] := by rw [he]; exact List.getElem?_eq_getElem hi
  have key : ∀ m ∈ foreigns, isxD B (cs8 c0 c1 c2 c3 c4 c5 c6 c7) [e, .ty m] = some (.bl false) := fun m hm => by
    rw [isx_eq he', xt_for (l := cs8 c0 c1 c2 c3 c4 c5 c6 c7) hi hm]
    rfl
  have ke : isxD B (cs8 c0 c1 c2 c3 c4 c5 c6 c7) [e, .ty "Exception"] = some (.bl true) := by
    rw [isx_eq he', xt_exc (l := cs8 c0 c1 c2 c3 c4 c5 c6 c7) hi]
    rfl
  have k0 := key "ValueError" (by decide); have k1 := key "LookupError" (by decide); have k2 := key "ArithmeticError" (by decide)
  simp only [cs8] at k0 k1 k2 ke
  unfold P__law_foreign p__law_foreign
  refine post_ok ?_
  walk_at "pp"
  rw [k0]; walk_at "pp"
  rw [k1]; walk_at "pp"
  rw [k2]; walk_at "pp"
  rw [ke]; walk_at "pp"
  walk_at "pd"
theorem caught_eq (hl : (cs8 c0 c1 c2 c3 c4 c5 c6 c7).Nodup) (hB : B ∉ cs8 c0 c1 c2 c3 c4 c5 c6 c7) {k : Int} {n : Nat} :
    P__law_caught B c0 c1 c2 c3 c4 c5 c6 c7 [.int k] n = .ok (.bl (!(k == 0))) n := by
  unfold P__law_caught prun p__law_caught ptryIs
  by_cases hk : k = 0
  · subst hk
    have e1 : (psq (pif (ptB (pbin eqD (pvO 0) (pK (.int 0)))) (praise0 c7) pnx) (praiseX c4 "name" (pcons (pvC 0) pnil))) (pstart 2 [.int 0]) n = .ex ⟨c7, none⟩ (pstart 2 [.int 0]) n := by
      have h1 : (ptB (pbin eqD (pvO 0) (pK (.int 0)))) (pstart 2 [.int 0]) n = .ok true n := by
        refine post_ok ?_
        walk_at "pp"
        rw [eqD_int]
        exact ⟨rfl, rfl⟩
      unfold psq pif pofE
      rw [h1]
      rfl
    rw [e1]
    dsimp only
    rw [if_pos (by show 1 < 2; decide)]
    have := xt_at (B := B) hl hB (i := 7) (j := 4) (by show 7 < 8; decide) (by show 4 < 8; decide)
    simp only [cs8, List.getElem_cons_zero, List.getElem_cons_succ] at this
    rw [this]
    rfl
  · have hb : (k == 0) = false := by rw [beq_eq_false_iff_ne]; exact hk
    have e1 : (psq (pif (ptB (pbin eqD (pvO 0) (pK (.int 0)))) (praise0 c7) pnx) (praiseX c4 "name" (pcons (pvC 0) pnil))) (pstart 2 [.int k]) n = .ex ⟨c4, some [("name", .int k)]⟩ (pstart 2 [.int k]) n := by
      have h1 : (ptB (pbin eqD (pvO 0) (pK (.int 0)))) (pstart 2 [.int k]) n = .ok false n := by
        refine post_ok ?_
        walk_at "pp"
        rw [eqD_int, hb]
        exact ⟨rfl, rfl⟩
      unfold psq pif pofE
      rw [h1]
      rfl
    rw [e1]
    dsimp only
    rw [if_pos (by show 1 < 2; decide)]
    have := xt_at (B := B) hl hB (i := 4) (j := 4) (by show 4 < 8; decide) (by show 4 < 8; decide)
    simp only [cs8, List.getElem_cons_zero, List.getElem_cons_succ] at this
    rw [this, hb]
    rfl
end
end Sh
set_option linter.all false
set_option maxRecDepth 100000
set_option maxHeartbeats 4000000
namespace Sh
open PySem PySem.Spec PyProof.Rows L2
local macro_rules | `(tactic| walk_at "pp") => `(tactic| try simp only [qr_run, qs_sq, qs_nx, qs_bk, qs_ct, qs_ret, qs_retN, qs_drop, qs_set, qs_setO, qs_if, qs_frz, qs_asg, qs_par, qs_aug, qs_for, qs_mut, qs_raise, qs_loopN, pp_ok, pp_ex, pp_bad, pp_pure, pp_bind, pp_pl, pp_pl0, pp_vC, pp_vO, pp_K, pp_bin, pp_un, pp_callN, pp_callF, pp_nil, pp_cons, pp_tup, pp_lst, pp_andV, pp_orV, pp_notV, pp_ifE, pp_tB, pp_trB, pp_andB, pp_orB, pp_notB, pp_yes, pp_chain, pp_optN, pp_optS, pp_sl, pp_strM, pp_fsN, pp_fsC, pp_seq, pp_rng1, pp_enum, pp_zip, pp_lr, pp_lc, pstart, pgN, pgNil, pgCons, pgSeq, itemsD, pwipe, pisB, pisS, Option.bind, List.map_cons, List.map_nil, List.length_cons, List.length_nil, List.getElem?_cons_zero, List.getElem?_cons_succ, List.cons_append, List.nil_append, List.set_cons_zero, List.set_cons_succ, List.replicate_succ, List.replicate_zero, Nat.reduceSub, Nat.reduceAdd, Nat.zero_add, if_true, if_false, Bool.false_eq_true, Bool.not_true, Bool.not_false, reduceIte, true_and, and_true])
section
variable {B c0 c1 c2 c3 c4 c5 c6 c7 : Addr} {row : List Int} {gn gtake gso gof gfor gca : PFn}
theorem mk1_pp {C : Addr} {f : Str} {ps : PA} {pe : PEnv} {n : Nat} {Q : D → Nat → Prop} {E : PX → Nat → Prop} : (pmkx C f ps pe n).Post Q E = (ps pe n).Post (fun ds n => match ds with | [d] => Q (.ex1 C f d) n | _ => False) E := by
  unfold pmkx
  rw [pp_bind]
  congr 1
  funext ds m
  match ds with
  | [] => rfl
  | [d] => rfl
  | _ :: _ :: _ => rfl
theorem mk0_pp {C : Addr} {pe : PEnv} {n : Nat} {Q : D → Nat → Prop} {E : PX → Nat → Prop} : (pmk0 C pe n).Post Q E = Q (.ex0 C) n := rfl
theorem at_pp {Cs : List Addr} {f : Str} {p : PE} {pe : PEnv} {n : Nat} {Q : D → Nat → Prop} {E : PX → Nat → Prop} : (pattrX Cs f p pe n).Post Q E = (p pe n).Post (fun d n => match d with | .ex1 C g v => C ∈ Cs ∧ g = f ∧ Q v n | _ => False) E := by
  unfold pattrX
  rw [pp_bind]
  congr 1
  funext d m
  cases d with
  | ex1 C g v =>
    dsimp only
    by_cases h : C ∈ Cs ∧ g = f
    · rw [if_pos h, pp_ok]
      exact propext ⟨fun q => ⟨h.1, h.2, q⟩, fun q => q.2.2⟩
    · rw [if_neg h, pp_bad]
      exact propext ⟨fun q => q.elim, fun q => h ⟨q.1, q.2.1⟩⟩
  | _ => rfl
structure Spec00 (row : List Int) (B c0 c1 c2 c3 c4 c5 c6 c7 : Addr) (gtake gso gof gfor gca : PFn) : Prop where
  take : ∀ lim n Q E, 0 < lim → (∀ v n, 0 ≤ v → v < lim → Q (.int v) n) → (gtake [rowD row, .spt, .int lim] n).Post Q E
  so : ∀ d n, To 8 d → gso [d, d] n = .ok (.bl true) n
  of : ∀ (i : Nat) e n, i < 8 → clsD e = (cs8 c0 c1 c2 c3 c4 c5 c6 c7)[i]? → gof [e] n = .ok (.lst (bls i)) n
  fo : ∀ (i : Nat) e n, i < 8 → clsD e = (cs8 c0 c1 c2 c3 c4 c5 c6 c7)[i]? → gfor [e] n = .ok (.bl false) n
  ca : ∀ k n, gca [.int k] n = .ok (.bl (!(k == 0))) n
theorem x_ok : PyData.strOk "x" = true := by decide +kernel
theorem to_two {d : D} (h : To 7 d) : To 8 (.tup [d, d]) := ⟨by simp, fun x hx => by
  simp only [List.mem_cons, List.not_mem_nil, or_false] at hx
  rcases hx with rfl | rfl <;> exact h⟩
theorem bls_eq (i : Nat) (hi : i < 8) : bls i = (rgD 0 8).map fun x => match x with | .int j => D.bl (j == (i : Int)) | _ => .non := by
  rw [rgD_map2, List.map_map]
  unfold bls
  refine List.map_congr_left fun j hj => ?_
  have := List.mem_range.mp hj
  show D.bl (decide (i = j)) = D.bl (((j : Nat) : Int) == (i : Int))
  congr 1
  by_cases h : i = j
  · subst h; rw [decide_eq_true rfl]; simp
  · rw [decide_eq_false h]
    symm
    rw [beq_eq_false_iff_ne]
    omega
theorem ne_bls (bs : List Bool) (h : bs.length ≤ 100) : neD (.lst (bs.map D.bl)) (.lst (bs.map D.bl)) = some (.bl false) := by
  have hp : ∀ l : List Bool, (l.map D.bl).mapM (toP 64) = some (l.map PyData.bool) := fun l => by
    induction l with
    | nil => rfl
    | cons b l ih => rw [List.map_cons, List.mapM_cons, ih]; rfl
  have hc : ∀ l : List Bool, PyData.canLayAll0 (l.map PyData.bool) = true ∧ PyData.depthAll (l.map PyData.bool) = 0 ∧ PyData.eqvAll (l.map PyData.bool) (l.map PyData.bool) = true := fun l => by
    induction l with
    | nil => simp [PyData.canLayAll0, PyData.depthAll, PyData.eqvAll]
    | cons b l ih =>
      obtain ⟨i1, i2, i3⟩ := ih
      rw [List.map_cons]
      refine ⟨?_, ?_, ?_⟩
      · simp [PyData.canLayAll0, PyData.canLay0, i1]
      · simp [PyData.depthAll, PyData.depth, i2]
      · simp [PyData.eqvAll, PyData.eqv, i3]
  obtain ⟨h1, h2, h3⟩ := hc bs
  unfold neD eqvD
  rw [show toP 65 (.lst (bs.map D.bl)) = some (.list (bs.map .bool)) by
    show ((bs.map D.bl).mapM (toP 64)).map PyData.list = _
    rw [hp]
    rfl]
  dsimp only
  have hs : SeqAt.shaped (.list (bs.map .bool)) = true := by
    show (PyData.canLay0 (.list (bs.map .bool)) && decide (PyData.depth (.list (bs.map .bool)) ≤ 64)) = true
    simp [PyData.canLay0, PyData.depth, h1, h2]
  rw [hs]
  simp [PyData.eqv, h3]
abbrev p0 (row : List Int) (x3 x4 x5 x6 x7 x8 x9 : Sl) : PEnv := [.no, .C (rowD row), .C .spt, x3, x4, x5, x6, x7, x8, x9]
abbrev ev8 (c0 c1 c2 c3 c4 c5 c6 c7 : Addr) (a : Int) (o : D) : List D := [.ex1 c0 "at" (.int a), .ex1 c1 "at" (.int a), .ex1 c2 "at" (.int a), .ex1 c3 "path" o, .ex1 c4 "name" o, .ex1 c5 "word" o, .ex1 c6 "event" o, .ex0 c7]
theorem ev8_cls {a : Int} {o : D} {i : Nat} {e : D} (h : (ev8 c0 c1 c2 c3 c4 c5 c6 c7 a o)[i]? = some e) : clsD e = (cs8 c0 c1 c2 c3 c4 c5 c6 c7)[i]? := by
  match i, h with
  | 0, h => cases h; rfl
  | 1, h => cases h; rfl
  | 2, h => cases h; rfl
  | 3, h => cases h; rfl
  | 4, h => cases h; rfl
  | 5, h => cases h; rfl
  | 6, h => cases h; rfl
  | 7, h => cases h; rfl
  | i + 8, h => simp at h
theorem rest00 (S : Spec00 row B c0 c1 c2 c3 c4 c5 c6 c7 gtake gso gof gfor gca) :
    ∃ n', p_law_k00_rest B c0 c1 c2 c3 c4 c5 c6 c7 gn gtake gso gof gfor gca (.no :: .C (rowD row) :: .C .spt :: List.replicate 7 .no) 0 = .rt (.bl true) n' := by
  have hsz := sizeL
  refine qpost_rt ?_
  unfold p_law_k00_rest
  refine sq_mid (J := fun e n => ∃ a : Int, e = p0 row (.C (.int a)) .no .no .no .no .no .no) ?_ ?_
  · walk_at "pp"
    refine S.take _ _ _ _ (by decide) fun v n v0 v1 => ?_
    rw [show subD (.int v) (.int 9) = some (.int (v - 9)) from rfl]
    exact ⟨_, rfl⟩
  rintro _ n ⟨a, rfl⟩
  refine sq_mid (J := fun e n => ∃ o : D, To 7 o ∧ e = p0 row (.C (.int a)) (.C o) .no .no .no .no .no) ?_ ?_
  · walk_at "pp"
    rw [show negD (.int a) = some (.int (-a)) from rfl]
    walk_at "pp"
    refine S.take _ _ _ _ (by decide) fun v n v0 v1 => ?_
    rcases (show v = 0 ∨ v = 1 ∨ v = 2 ∨ v = 3 ∨ v = 4 by omega) with rfl | rfl | rfl | rfl | rfl
    · rw [show ∀ b c d e, ixD (.lst [D.non, b, c, d, e]) (.int 0) = some .non from fun _ _ _ _ => rfl]
      exact ⟨.non, trivial, rfl⟩
    · rw [show ∀ a b c d e, ixD (.lst [a, b, c, d, e]) (.int 1) = some b from fun _ _ _ _ _ => rfl]
      exact ⟨.int (-a), trivial, rfl⟩
    · rw [show ∀ a b c d e, ixD (.lst [a, b, c, d, e]) (.int 2) = some c from fun _ _ _ _ _ => rfl]
      exact ⟨.str "x", x_ok, rfl⟩
    · rw [show ∀ a b c d e, ixD (.lst [a, b, c, d, e]) (.int 3) = some d from fun _ _ _ _ _ => rfl]
      refine ⟨.tup [.int a, .int 2], ⟨by simp, fun x hx => ?_⟩, rfl⟩
      simp only [List.mem_cons, List.not_mem_nil, or_false] at hx
      rcases hx with rfl | rfl <;> trivial
    · rw [show ∀ a b c d e, ixD (.lst [a, b, c, d, e]) (.int 4) = some e from fun _ _ _ _ _ => rfl]
      exact ⟨.bl true, trivial, rfl⟩
  rintro _ n ⟨o, ho, rfl⟩
  refine sq_mid (J := fun e n => ∃ x5, e = p0 row (.C (.int a)) (.C o) x5 .no .no .no .no) ?_ ?_
  · rw [qs_for]
    walk_at "pp"
    simp only [mk1_pp]
    walk_at "pp"
    show (ploop _ _ [.ex1 c0 "at" (.int a), .ex1 c1 "at" (.int a), .ex1 c2 "at" (.int a), .ex1 c0 "at" (.int a), .ex1 c1 "at" (.int a), .ex1 c2 "at" (.int a)] _ n).Post _
    refine qs_loop (fun k e n => ∃ x5, e = p0 row (.C (.int a)) (.C o) x5 .no .no .no .no) ⟨_, rfl⟩ ?_ ?_
    · rintro i x pe n hx ⟨x5, rfl⟩
      obtain ⟨C, hC, rfl⟩ : ∃ C, C ∈ [c0, c1, c2] ∧ x = .ex1 C "at" (.int a) := by
        have := List.mem_of_getElem? hx
        simp only [List.mem_cons, List.not_mem_nil, or_false] at this
        rcases this with rfl | rfl | rfl | rfl | rfl | rfl
        · exact ⟨c0, by simp, rfl⟩
        · exact ⟨c1, by simp, rfl⟩
        · exact ⟨c2, by simp, rfl⟩
        · exact ⟨c0, by simp, rfl⟩
        · exact ⟨c1, by simp, rfl⟩
        · exact ⟨c2, by simp, rfl⟩
      refine ⟨_, rfl, ?_⟩
      walk_at "pp"
      simp only [at_pp]
      walk_at "pp"
      rw [S.so _ n (show To 8 (.int a) from trivial)]
      walk_at "pp"
      exact ⟨hC, _, rfl⟩
    · rintro pe n ⟨x5, rfl⟩
      exact ⟨_, rfl⟩
  rintro _ n ⟨x5, rfl⟩
  refine sq_mid (J := fun e n => ∃ x6, e = p0 row (.C (.int a)) (.C o) x5 x6 .no .no .no) ?_ ?_
  · rw [qs_for]
    walk_at "pp"
    simp only [mk1_pp, at_pp]
    walk_at "pp"
    simp only [List.mem_singleton, true_and]
    walk_at "pp"
    show (ploop _ _ [.tup [o, o], .tup [o, o]] _ n).Post _
    refine qs_loop (fun k e n => ∃ x6, e = p0 row (.C (.int a)) (.C o) x5 x6 .no .no .no) ⟨_, rfl⟩ ?_ ?_
    · rintro i x pe n hx ⟨x6, rfl⟩
      obtain rfl : x = .tup [o, o] := by
        have := List.mem_of_getElem? hx
        simp only [List.mem_cons, List.not_mem_nil, or_false] at this
        rcases this with rfl | rfl <;> rfl
      refine ⟨_, rfl, ?_⟩
      walk_at "pp"
      rw [S.so _ n (to_two ho)]
      walk_at "pp"
      exact ⟨_, rfl⟩
    · rintro pe n ⟨x6, rfl⟩
      exact ⟨_, rfl⟩
  rintro _ n ⟨x6, rfl⟩
  refine sq_mid (J := fun e n => ∃ x6, e = p0 row (.C (.int a)) (.C o) x5 x6 .no .no .no) ?_ ?_
  · rw [qs_for]
    walk_at "pp"
    simp only [mk1_pp, at_pp]
    walk_at "pp"
    simp only [List.mem_singleton, true_and]
    walk_at "pp"
    show (ploop _ _ [.tup [o, o], .tup [o, o]] _ n).Post _
    refine qs_loop (fun k e n => ∃ x6, e = p0 row (.C (.int a)) (.C o) x5 x6 .no .no .no) ⟨_, rfl⟩ ?_ ?_
    · rintro i x pe n hx ⟨x6, rfl⟩
      obtain rfl : x = .tup [o, o] := by
        have := List.mem_of_getElem? hx
        simp only [List.mem_cons, List.not_mem_nil, or_false] at this
        rcases this with rfl | rfl <;> rfl
      refine ⟨_, rfl, ?_⟩
      walk_at "pp"
      rw [S.so _ n (to_two ho)]
      walk_at "pp"
      exact ⟨_, rfl⟩
    · rintro pe n ⟨x6, rfl⟩
      exact ⟨_, rfl⟩
  clear x6
  rintro _ n ⟨x6, rfl⟩
  refine sq_mid (J := fun e n => e = p0 row (.C (.int a)) (.C o) x5 x6 (.C (.lst (ev8 c0 c1 c2 c3 c4 c5 c6 c7 a o))) .no .no) ?_ ?_
  · walk_at "pp"
    simp only [mk1_pp, mk0_pp]
    walk_at "pp"
  rintro _ n rfl
  refine sq_mid (J := fun e n => ∃ x8 x9, e = p0 row (.C (.int a)) (.C o) x5 x6 (.C (.lst (ev8 c0 c1 c2 c3 c4 c5 c6 c7 a o))) x8 x9) ?_ ?_
  · rw [qs_for]
    walk_at "pp"
    refine ⟨⟨by decide, by decide⟩, ?_⟩
    refine qs_loop (fun k e n => ∃ x8 x9, e = p0 row (.C (.int a)) (.C o) x5 x6 (.C (.lst (ev8 c0 c1 c2 c3 c4 c5 c6 c7 a o))) x8 x9) ⟨_, _, rfl⟩ ?_ ?_
    · rintro i x pe n hx ⟨x8, x9, rfl⟩
      have hi : i < 8 := by
        have := (List.getElem?_eq_some_iff.mp hx).1
        rwa [show (rgD 0 (8 : Int).toNat).length = 8 from rfl] at this
      obtain rfl : x = .int (i : Int) := by
        rw [show (8 : Int).toNat = 8 from rfl, rgD_map2] at hx
        obtain ⟨j, hj, rfl⟩ := getM hx
        obtain ⟨hl', hj⟩ := List.getElem?_eq_some_iff.mp hj
        rw [List.getElem_range] at hj
        rw [hj]
      refine ⟨_, rfl, ?_⟩
      obtain ⟨e, he⟩ : ∃ e, (ev8 c0 c1 c2 c3 c4 c5 c6 c7 a o)[i]? = some e := ⟨_, List.getElem?_eq_getElem (by exact hi)⟩
      have hix : ixD (.lst (ev8 c0 c1 c2 c3 c4 c5 c6 c7 a o)) (.int (i : Int)) = some e := ix_itemsD (d := .lst (ev8 c0 c1 c2 c3 c4 c5 c6 c7 a o)) rfl he
      have hcl := ev8_cls he
      have hb : isxD B (cs8 c0 c1 c2 c3 c4 c5 c6 c7) [e, .ob B] = some (.bl true) := by
        rw [isx_eq (C := (cs8 c0 c1 c2 c3 c4 c5 c6 c7)[i]) (by rw [hcl]; exact List.getElem?_eq_getElem hi), xt_base (l := cs8 c0 c1 c2 c3 c4 c5 c6 c7) hi]
        rfl
      generalize hev : ev8 c0 c1 c2 c3 c4 c5 c6 c7 a o = evs at *
      walk_at "pp"
      rw [hix]
      walk_at "pp"
      rw [S.of i e n hi hcl]
      walk_at "pp"
      refine ⟨⟨by decide, by decide⟩, by rw [rgD_length]; decide, ?_⟩
      rw [plcL_eq (f := fun x => match x with | .int j => D.bl (j == (i : Int)) | _ => .non) (c := fun _ => true)]
      rotate_left
      · intro x hx
        rw [show (8 : Int).toNat = 8 from rfl, rgD_map2] at hx
        obtain ⟨j, _, rfl⟩ := List.mem_map.mp hx
        refine ⟨_, rfl, rfl, fun _ => ?_⟩
        refine post_ok ?_
        walk_at "pp"
        rw [eqD_int]
        exact ⟨rfl, rfl⟩
      rw [List.filter_eq_self.mpr (fun _ _ => rfl), List.nil_append, show (8 : Int).toNat = 8 from rfl, ← bls_eq i hi]
      walk_at "pp"
      rw [show bls i = ((List.range 8).map fun j => decide (i = j)).map D.bl by unfold bls; rw [List.map_map]; rfl, ne_bls _ (by simp)]
      walk_at "pp"
      rw [S.fo i e n hi hcl]
      walk_at "pp"
      simp only [cs8] at hb
      rw [hb]
      walk_at "pp"
      exact ⟨_, _, rfl⟩
    · rintro pe n ⟨x8, x9, rfl⟩
      exact ⟨_, _, rfl⟩
  rintro _ n ⟨x8, x9, rfl⟩
  walk_at "pp"
  rw [S.ca]
  walk_at "pp"
  rw [show ((0 : Int) == 0) = true from rfl]
  walk_at "pp"
  refine S.take _ _ _ _ (by decide) fun v n v0 v1 => ?_
  rw [show addD (.int 1) (.int v) = some (.int (1 + v)) from rfl]
  walk_at "pp"
  rw [S.ca, show ((1 + v : Int) == 0) = false by rw [beq_eq_false_iff_ne]; omega]
  walk_at "pp"
  all_goals first | rfl | trivial | exact rfl
end
theorem spec00 {B c0 c1 c2 c3 c4 c5 c6 c7 : Addr} (hl : (cs8 c0 c1 c2 c3 c4 c5 c6 c7).Nodup) (hB : B ∉ cs8 c0 c1 c2 c3 c4 c5 c6 c7) {row : List Int} (hr : 0 < row.length) : Spec00 row B c0 c1 c2 c3 c4 c5 c6 c7 P__law_take (P__law_so 8) (P__law_of B c0 c1 c2 c3 c4 c5 c6 c7) (P__law_foreign B c0 c1 c2 c3 c4 c5 c6 c7) (P__law_caught B c0 c1 c2 c3 c4 c5 c6 c7) where
  take := fun lim n Q E hl h => take_pp hr hl h
  so := fun d n h => so_refl h
  of := fun i e n hi he => law_of_eq hl hB hi he
  fo := fun i e n hi he => law_foreign_eq hi he
  ca := fun k n => caught_eq hl hB
theorem sim_none00 {f : Fn} : SimFn f (fun _ _ => .bad) := by
  unfold SimFn
  intros
  trivial
theorem law_true_k00 {B c0 c1 c2 c3 c4 c5 c6 c7 : Addr} (hN : (B :: cs8 c0 c1 c2 c3 c4 c5 c6 c7).Nodup) (ns : List Int) (h : ns.length ≤ 63) : ∃ m, F_law_k00 B c0 c1 c2 c3 c4 c5 c6 c7 [.rol (ns.map W.int)] [] = .ok (.bl true) m :=
  law_of (k := 7) (sim_law_k00_rest (f__law_numbers := F__law_numbers) sim_none00 S__law_take (S__law_so 8) (S__law_of B c0 c1 c2 c3 c4 c5 c6 c7) (S__law_foreign B c0 c1 c2 c3 c4 c5 c6 c7) (S__law_caught B c0 c1 c2 c3 c4 c5 c6 c7)) ns (numbers_ok ns) fun row hr => rest00 (spec00 (List.nodup_cons.mp hN).2 (List.nodup_cons.mp hN).1 hr)
end Sh
set_option linter.all false
set_option maxRecDepth 100000
set_option maxHeartbeats 4000000
namespace Sh
open PySem PySem.Spec PyProof.Rows L2
structure Defs (K : PySem.W.Frag) (mg : Str → Option Value) : Prop where
  d__law_numbers : DefAt K mg "_law_numbers" (top 12) ["script"]
  d__law_draw : DefAt K mg "_law_draw" (top 13) ["row", "at", "limit"]
  d__law_take : DefAt K mg "_law_take" (top 14) ["row", "spot", "limit"]
  d__law_caught : DefAt K mg "_law_caught" (top 17) ["at"]
  d__law_so : DefAt K mg "_law_so" (top 11) ["found", "meant"]
  d__law_foreign : DefAt K mg "_law_foreign" (top 16) ["value"]
  d__law_of : DefAt K mg "_law_of" (top 15) ["value"]
  d_law : DefAt K mg "law" (top 18) ["script"]
section
variable {P : Program} {w : World} {K : PySem.W.Frag} {mg : Str → Option Value} {base : Heap} {C_PullError : Addr} {C_BadValue : Addr} {C_BadText : Addr} {C_BadGrounds : Addr} {C_NoPort : Addr} {C_NoName : Addr} {C_NoDriver : Addr} {C_NotNow : Addr} {C_TooMany : Addr}
theorem gg__law_numbers (T : Top K w mg C_PullError C_BadValue C_BadText C_BadGrounds C_NoPort C_NoName C_NoDriver C_NotNow C_TooMany) (D : Defs K mg) : GFn P w K mg base 1 "_law_numbers" ["script"] (F__law_numbers) := k__law_numbers (k := 0) T D.d__law_numbers
theorem gg__law_draw (T : Top K w mg C_PullError C_BadValue C_BadText C_BadGrounds C_NoPort C_NoName C_NoDriver C_NotNow C_TooMany) (D : Defs K mg) : GFn P w K mg base 1 "_law_draw" ["row", "at", "limit"] (F__law_draw) := k__law_draw (k := 0) T D.d__law_draw
theorem gg__law_take (T : Top K w mg C_PullError C_BadValue C_BadText C_BadGrounds C_NoPort C_NoName C_NoDriver C_NotNow C_TooMany) (D : Defs K mg) : GFn P w K mg base 2 "_law_take" ["row", "spot", "limit"] (F__law_take) := k__law_take T D.d__law_take ((gg__law_draw T D).mono (by omega))
theorem gg__law_caught (T : Top K w mg C_PullError C_BadValue C_BadText C_BadGrounds C_NoPort C_NoName C_NoDriver C_NotNow C_TooMany) (D : Defs K mg) : GFn P w K mg base 1 "_law_caught" ["at"] (F__law_caught C_PullError C_BadValue C_BadText C_BadGrounds C_NoPort C_NoName C_NoDriver C_NotNow C_TooMany) := k__law_caught (k := 0) T D.d__law_caught
theorem gg__law_so_ (T : Top K w mg C_PullError C_BadValue C_BadText C_BadGrounds C_NoPort C_NoName C_NoDriver C_NotNow C_TooMany) (D : Defs K mg) : ∀ d, GFn P w K mg base (d + 0) "_law_so" ["found", "meant"] (F__law_so d)
  | 0 => GFn.none D.d__law_so
  | d + 1 => k__law_so T D.d__law_so (gg__law_so_ T D d)
theorem gg__law_so (T : Top K w mg C_PullError C_BadValue C_BadText C_BadGrounds C_NoPort C_NoName C_NoDriver C_NotNow C_TooMany) (D : Defs K mg) : GFn P w K mg base 8 "_law_so" ["found", "meant"] (F__law_so 8) := gg__law_so_ T D 8
theorem gg__law_foreign (T : Top K w mg C_PullError C_BadValue C_BadText C_BadGrounds C_NoPort C_NoName C_NoDriver C_NotNow C_TooMany) (D : Defs K mg) : GFn P w K mg base 1 "_law_foreign" ["value"] (F__law_foreign C_PullError C_BadValue C_BadText C_BadGrounds C_NoPort C_NoName C_NoDriver C_NotNow C_TooMany) := k__law_foreign (k := 0) T D.d__law_foreign
theorem gg__law_of (T : Top K w mg C_PullError C_BadValue C_BadText C_BadGrounds C_NoPort C_NoName C_NoDriver C_NotNow C_TooMany) (D : Defs K mg) : GFn P w K mg base 1 "_law_of" ["value"] (F__law_of C_PullError C_BadValue C_BadText C_BadGrounds C_NoPort C_NoName C_NoDriver C_NotNow C_TooMany) := k__law_of (k := 0) T D.d__law_of
theorem gg_law (T : Top K w mg C_PullError C_BadValue C_BadText C_BadGrounds C_NoPort C_NoName C_NoDriver C_NotNow C_TooMany) (D : Defs K mg) : GFn P w K mg base 9 "law" ["script"] (F_law_k00 C_PullError C_BadValue C_BadText C_BadGrounds C_NoPort C_NoName C_NoDriver C_NotNow C_TooMany) := k_law T D.d_law ((gg__law_numbers T D).mono (by omega)) ((gg__law_take T D).mono (by omega)) ((gg__law_so T D).mono (by omega)) ((gg__law_of T D).mono (by omega)) ((gg__law_foreign T D).mono (by omega)) ((gg__law_caught T D).mono (by omega))
end
end Sh
open PySem PySem.W PyProof.Rows
set_option maxRecDepth 100000 in
set_option maxHeartbeats 0 in
theorem PySem.Challenge.cw_pullsafe_k00_errors_holds : PySem.Challenge.rw_pullsafe_k00_errors.Holds := by
  w_on; o_law; k_head; (case hw => w_witness2)
  k_fill
  refine' Sh.law_walk (l := PySem.Challenge.rw_pullsafe_k00_errors) (k := 9) (F := Sh.F_law_k00 ?C_PullError ?C_BadValue ?C_BadText ?C_BadGrounds ?C_NoPort ?C_NoName ?C_NoDriver ?C_NotNow ?C_TooMany) rfl rfl ⟨rfl, by decide, by decide⟩ (fun w h Y => PySem.W.kIn_of Y) rfl ?F (fun ns h => Sh.law_true_k00 ?hN ns h)
  case F =>
    intro w mg h KX G
    have kx_BadValue : XB.MkOk (L2.KOf KX) mg "BadValue" ?C_BadValue "at" := by
      unfold L2.KOf
      refine' XF_at.at_mk (qn := "BadValue.__init__") KX G ?aC ?xL ?hb ?sa ?nb ?a1 ?t1 ?l1 ?c1 ?kC
      (case aC => k_is); (case xL => k_is); (case hb => decide +kernel); (case sa => k_is); (case nb => k_is); (case a1 => k_is); (case t1 => k_is); (case l1 => k_is); (case c1 => k_is); (case kC => k_is)
    have kx_BadText : XB.MkOk (L2.KOf KX) mg "BadText" ?C_BadText "at" := by
      unfold L2.KOf
      refine' XF_at.at_mk (qn := "BadText.__init__") KX G ?aC ?xL ?hb ?sa ?nb ?a1 ?t1 ?l1 ?c1 ?kC
      (case aC => k_is); (case xL => k_is); (case hb => decide +kernel); (case sa => k_is); (case nb => k_is); (case a1 => k_is); (case t1 => k_is); (case l1 => k_is); (case c1 => k_is); (case kC => k_is)
    have kx_BadGrounds : XB.MkOk (L2.KOf KX) mg "BadGrounds" ?C_BadGrounds "at" := by
      unfold L2.KOf
      refine' XF_at.at_mk (qn := "BadGrounds.__init__") KX G ?aC ?xL ?hb ?sa ?nb ?a1 ?t1 ?l1 ?c1 ?kC
      (case aC => k_is); (case xL => k_is); (case hb => decide +kernel); (case sa => k_is); (case nb => k_is); (case a1 => k_is); (case t1 => k_is); (case l1 => k_is); (case c1 => k_is); (case kC => k_is)
    have kx_NoPort : XB.MkOk (L2.KOf KX) mg "NoPort" ?C_NoPort "path" := by
      unfold L2.KOf
      refine' XF_path.at_mk (qn := "NoPort.__init__") KX G ?aC ?xL ?hb ?sa ?nb ?a1 ?t1 ?l1 ?c1 ?kC
      (case aC => k_is); (case xL => k_is); (case hb => decide +kernel); (case sa => k_is); (case nb => k_is); (case a1 => k_is); (case t1 => k_is); (case l1 => k_is); (case c1 => k_is); (case kC => k_is)
    have kx_NoName : XB.MkOk (L2.KOf KX) mg "NoName" ?C_NoName "name" := by
      unfold L2.KOf
      refine' XF_name.at_mk (qn := "NoName.__init__") KX G ?aC ?xL ?hb ?sa ?nb ?a1 ?t1 ?l1 ?c1 ?kC
      (case aC => k_is); (case xL => k_is); (case hb => decide +kernel); (case sa => k_is); (case nb => k_is); (case a1 => k_is); (case t1 => k_is); (case l1 => k_is); (case c1 => k_is); (case kC => k_is)
    have kx_NoDriver : XB.MkOk (L2.KOf KX) mg "NoDriver" ?C_NoDriver "word" := by
      unfold L2.KOf
      refine' XF_word.at_mk (qn := "NoDriver.__init__") KX G ?aC ?xL ?hb ?sa ?nb ?a1 ?t1 ?l1 ?c1 ?kC
      (case aC => k_is); (case xL => k_is); (case hb => decide +kernel); (case sa => k_is); (case nb => k_is); (case a1 => k_is); (case t1 => k_is); (case l1 => k_is); (case c1 => k_is); (case kC => k_is)
    have kx_NotNow : XB.MkOk (L2.KOf KX) mg "NotNow" ?C_NotNow "event" := by
      unfold L2.KOf
      refine' XF_event.at_mk (qn := "NotNow.__init__") KX G ?aC ?xL ?hb ?sa ?nb ?a1 ?t1 ?l1 ?c1 ?kC
      (case aC => k_is); (case xL => k_is); (case hb => decide +kernel); (case sa => k_is); (case nb => k_is); (case a1 => k_is); (case t1 => k_is); (case l1 => k_is); (case c1 => k_is); (case kC => k_is)
    have m0_TooMany : mg "TooMany" = some (.ref ?C_TooMany) := by
      refine' Sh.at_mg KX G ?aC
      (case aC => k_is)
    have m0_PullError : mg "PullError" = some (.ref ?C_PullError) := by
      refine' Sh.at_mg KX G ?aC
      (case aC => k_is)
    have g_PullError : Sh.GVal (L2.KOf KX) mg "PullError" (.ob ?C_PullError) := Sh.gv_ob m0_PullError
    have g_BadValue : Sh.GVal (L2.KOf KX) mg "BadValue" (.ob ?C_BadValue) := Sh.gv_ob kx_BadValue.gC
    have g_BadText : Sh.GVal (L2.KOf KX) mg "BadText" (.ob ?C_BadText) := Sh.gv_ob kx_BadText.gC
    have g_BadGrounds : Sh.GVal (L2.KOf KX) mg "BadGrounds" (.ob ?C_BadGrounds) := Sh.gv_ob kx_BadGrounds.gC
    have g_NoPort : Sh.GVal (L2.KOf KX) mg "NoPort" (.ob ?C_NoPort) := Sh.gv_ob kx_NoPort.gC
    have g_NoName : Sh.GVal (L2.KOf KX) mg "NoName" (.ob ?C_NoName) := Sh.gv_ob kx_NoName.gC
    have g_NoDriver : Sh.GVal (L2.KOf KX) mg "NoDriver" (.ob ?C_NoDriver) := Sh.gv_ob kx_NoDriver.gC
    have g_NotNow : Sh.GVal (L2.KOf KX) mg "NotNow" (.ob ?C_NotNow) := Sh.gv_ob kx_NotNow.gC
    have g_TooMany : Sh.GVal (L2.KOf KX) mg "TooMany" (.ob ?C_TooMany) := Sh.gv_ob m0_TooMany
    have gB : mg "PullError" = some (.ref ?C_PullError) := m0_PullError
    have z0 : PySem.W.keepIn (L2.KOf KX) (.ref ?C_TooMany) = true := by
      unfold L2.KOf
      k_is
    have z1 : PySem.W.excIn (L2.KOf KX) ?C_TooMany ErX.exT "Exception.__new__" = true := by
      unfold L2.KOf
      first | k_exc | (unfold ErX.exT; k_exc)
    have z_TooMany : Sh.MkNo (L2.KOf KX) mg "TooMany" ?C_TooMany := ⟨m0_TooMany, z0, z1⟩
    have e_BadValue : L2.ExcC (L2.KOf KX) ?C_BadValue := by
      unfold L2.KOf
      refine' ⟨?a, ?b, ?c, ?d, ?e, ?f, ?g, ?h⟩
      (case a => k_is); (case b => k_is); (case c => k_is); (case d => k_is); (case e => k_is); (case f => k_is); (case g => k_is); (case h => k_is)
    have e_BadText : L2.ExcC (L2.KOf KX) ?C_BadText := by
      unfold L2.KOf
      refine' ⟨?a, ?b, ?c, ?d, ?e, ?f, ?g, ?h⟩
      (case a => k_is); (case b => k_is); (case c => k_is); (case d => k_is); (case e => k_is); (case f => k_is); (case g => k_is); (case h => k_is)
    have e_BadGrounds : L2.ExcC (L2.KOf KX) ?C_BadGrounds := by
      unfold L2.KOf
      refine' ⟨?a, ?b, ?c, ?d, ?e, ?f, ?g, ?h⟩
      (case a => k_is); (case b => k_is); (case c => k_is); (case d => k_is); (case e => k_is); (case f => k_is); (case g => k_is); (case h => k_is)
    have e_NoPort : L2.ExcC (L2.KOf KX) ?C_NoPort := by
      unfold L2.KOf
      refine' ⟨?a, ?b, ?c, ?d, ?e, ?f, ?g, ?h⟩
      (case a => k_is); (case b => k_is); (case c => k_is); (case d => k_is); (case e => k_is); (case f => k_is); (case g => k_is); (case h => k_is)
    have e_NoName : L2.ExcC (L2.KOf KX) ?C_NoName := by
      unfold L2.KOf
      refine' ⟨?a, ?b, ?c, ?d, ?e, ?f, ?g, ?h⟩
      (case a => k_is); (case b => k_is); (case c => k_is); (case d => k_is); (case e => k_is); (case f => k_is); (case g => k_is); (case h => k_is)
    have e_NoDriver : L2.ExcC (L2.KOf KX) ?C_NoDriver := by
      unfold L2.KOf
      refine' ⟨?a, ?b, ?c, ?d, ?e, ?f, ?g, ?h⟩
      (case a => k_is); (case b => k_is); (case c => k_is); (case d => k_is); (case e => k_is); (case f => k_is); (case g => k_is); (case h => k_is)
    have e_NotNow : L2.ExcC (L2.KOf KX) ?C_NotNow := by
      unfold L2.KOf
      refine' ⟨?a, ?b, ?c, ?d, ?e, ?f, ?g, ?h⟩
      (case a => k_is); (case b => k_is); (case c => k_is); (case d => k_is); (case e => k_is); (case f => k_is); (case g => k_is); (case h => k_is)
    have e_TooMany : L2.ExcC (L2.KOf KX) ?C_TooMany := by
      unfold L2.KOf
      refine' ⟨?a, ?b, ?c, ?d, ?e, ?f, ?g, ?h⟩
      (case a => k_is); (case b => k_is); (case c => k_is); (case d => k_is); (case e => k_is); (case f => k_is); (case g => k_is); (case h => k_is)
    have t_TooMany : PySem.W.typeIn (L2.KOf KX) (.ref ?C_TooMany) = some (.type "type") := by
      unfold L2.KOf
      k_is
    have r_TooMany : Sh.RaOk (L2.KOf KX) ?C_TooMany := ⟨e_TooMany.hs, t_TooMany⟩
    have t_NoName : PySem.W.typeIn (L2.KOf KX) (.ref ?C_NoName) = some (.type "type") := by
      unfold L2.KOf
      k_is
    have r_NoName : Sh.RaOk (L2.KOf KX) ?C_NoName := ⟨e_NoName.hs, t_NoName⟩
    have fa_BadValue : PySem.W.findIn (L2.KOf KX) (.ref ?C_BadValue) "at" = some none := by
      unfold L2.KOf
      k_is
    have fa_BadText : PySem.W.findIn (L2.KOf KX) (.ref ?C_BadText) "at" = some none := by
      unfold L2.KOf
      k_is
    have fa_BadGrounds : PySem.W.findIn (L2.KOf KX) (.ref ?C_BadGrounds) "at" = some none := by
      unfold L2.KOf
      k_is
    have fa_NoPort : PySem.W.findIn (L2.KOf KX) (.ref ?C_NoPort) "path" = some none := by
      unfold L2.KOf
      k_is
    have fa_NoName : PySem.W.findIn (L2.KOf KX) (.ref ?C_NoName) "name" = some none := by
      unfold L2.KOf
      k_is
    have fa_NoDriver : PySem.W.findIn (L2.KOf KX) (.ref ?C_NoDriver) "word" = some none := by
      unfold L2.KOf
      k_is
    have fa_NotNow : PySem.W.findIn (L2.KOf KX) (.ref ?C_NotNow) "event" = some none := by
      unfold L2.KOf
      k_is
    have xa_at := Sh.all3 (P := fun C => L2.ExcC (L2.KOf KX) C ∧ PySem.W.findIn (L2.KOf KX) (.ref C) "at" = some none) ⟨e_BadValue, fa_BadValue⟩ ⟨e_BadText, fa_BadText⟩ ⟨e_BadGrounds, fa_BadGrounds⟩
    have xa_event := Sh.all1 (P := fun C => L2.ExcC (L2.KOf KX) C ∧ PySem.W.findIn (L2.KOf KX) (.ref C) "event" = some none) ⟨e_NotNow, fa_NotNow⟩
    have xa_name := Sh.all1 (P := fun C => L2.ExcC (L2.KOf KX) C ∧ PySem.W.findIn (L2.KOf KX) (.ref C) "name" = some none) ⟨e_NoName, fa_NoName⟩
    have xa_path := Sh.all1 (P := fun C => L2.ExcC (L2.KOf KX) C ∧ PySem.W.findIn (L2.KOf KX) (.ref C) "path" = some none) ⟨e_NoPort, fa_NoPort⟩
    have xa_word := Sh.all1 (P := fun C => L2.ExcC (L2.KOf KX) C ∧ PySem.W.findIn (L2.KOf KX) (.ref C) "word" = some none) ⟨e_NoDriver, fa_NoDriver⟩
    have kb_BadValue : PySem.W.kitOne (L2.KOf KX) (.ref ?C_BadValue) (.ref ?C_PullError) = some true := by
      unfold L2.KOf
      kit_is
    have ke_BadValue : PySem.W.kitOne (L2.KOf KX) (.ref ?C_BadValue) (.type "Exception") = some true := by
      unfold L2.KOf
      kit_is
    have kf_BadValue_ValueError : PySem.W.kitOne (L2.KOf KX) (.ref ?C_BadValue) (.type "ValueError") = some false := by
      unfold L2.KOf
      kit_is
    have kf_BadValue_LookupError : PySem.W.kitOne (L2.KOf KX) (.ref ?C_BadValue) (.type "LookupError") = some false := by
      unfold L2.KOf
      kit_is
    have kf_BadValue_ArithmeticError : PySem.W.kitOne (L2.KOf KX) (.ref ?C_BadValue) (.type "ArithmeticError") = some false := by
      unfold L2.KOf
      kit_is
    have kk_BadValue_BadText : PySem.W.kitOne (L2.KOf KX) (.ref ?C_BadValue) (.ref ?C_BadText) = some false := by
      unfold L2.KOf
      kit_is
    have kk_BadValue_BadGrounds : PySem.W.kitOne (L2.KOf KX) (.ref ?C_BadValue) (.ref ?C_BadGrounds) = some false := by
      unfold L2.KOf
      kit_is
    have kk_BadValue_NoPort : PySem.W.kitOne (L2.KOf KX) (.ref ?C_BadValue) (.ref ?C_NoPort) = some false := by
      unfold L2.KOf
      kit_is
    have kk_BadValue_NoName : PySem.W.kitOne (L2.KOf KX) (.ref ?C_BadValue) (.ref ?C_NoName) = some false := by
      unfold L2.KOf
      kit_is
    have kk_BadValue_NoDriver : PySem.W.kitOne (L2.KOf KX) (.ref ?C_BadValue) (.ref ?C_NoDriver) = some false := by
      unfold L2.KOf
      kit_is
    have kk_BadValue_NotNow : PySem.W.kitOne (L2.KOf KX) (.ref ?C_BadValue) (.ref ?C_NotNow) = some false := by
      unfold L2.KOf
      kit_is
    have kk_BadValue_TooMany : PySem.W.kitOne (L2.KOf KX) (.ref ?C_BadValue) (.ref ?C_TooMany) = some false := by
      unfold L2.KOf
      kit_is
    have kb_BadText : PySem.W.kitOne (L2.KOf KX) (.ref ?C_BadText) (.ref ?C_PullError) = some true := by
      unfold L2.KOf
      kit_is
    have ke_BadText : PySem.W.kitOne (L2.KOf KX) (.ref ?C_BadText) (.type "Exception") = some true := by
      unfold L2.KOf
      kit_is
    have kf_BadText_ValueError : PySem.W.kitOne (L2.KOf KX) (.ref ?C_BadText) (.type "ValueError") = some false := by
      unfold L2.KOf
      kit_is
    have kf_BadText_LookupError : PySem.W.kitOne (L2.KOf KX) (.ref ?C_BadText) (.type "LookupError") = some false := by
      unfold L2.KOf
      kit_is
    have kf_BadText_ArithmeticError : PySem.W.kitOne (L2.KOf KX) (.ref ?C_BadText) (.type "ArithmeticError") = some false := by
      unfold L2.KOf
      kit_is
    have kk_BadText_BadValue : PySem.W.kitOne (L2.KOf KX) (.ref ?C_BadText) (.ref ?C_BadValue) = some false := by
      unfold L2.KOf
      kit_is
    have kk_BadText_BadGrounds : PySem.W.kitOne (L2.KOf KX) (.ref ?C_BadText) (.ref ?C_BadGrounds) = some false := by
      unfold L2.KOf
      kit_is
    have kk_BadText_NoPort : PySem.W.kitOne (L2.KOf KX) (.ref ?C_BadText) (.ref ?C_NoPort) = some false := by
      unfold L2.KOf
      kit_is
    have kk_BadText_NoName : PySem.W.kitOne (L2.KOf KX) (.ref ?C_BadText) (.ref ?C_NoName) = some false := by
      unfold L2.KOf
      kit_is
    have kk_BadText_NoDriver : PySem.W.kitOne (L2.KOf KX) (.ref ?C_BadText) (.ref ?C_NoDriver) = some false := by
      unfold L2.KOf
      kit_is
    have kk_BadText_NotNow : PySem.W.kitOne (L2.KOf KX) (.ref ?C_BadText) (.ref ?C_NotNow) = some false := by
      unfold L2.KOf
      kit_is
    have kk_BadText_TooMany : PySem.W.kitOne (L2.KOf KX) (.ref ?C_BadText) (.ref ?C_TooMany) = some false := by
      unfold L2.KOf
      kit_is
    have kb_BadGrounds : PySem.W.kitOne (L2.KOf KX) (.ref ?C_BadGrounds) (.ref ?C_PullError) = some true := by
      unfold L2.KOf
      kit_is
    have ke_BadGrounds : PySem.W.kitOne (L2.KOf KX) (.ref ?C_BadGrounds) (.type "Exception") = some true := by
      unfold L2.KOf
      kit_is
    have kf_BadGrounds_ValueError : PySem.W.kitOne (L2.KOf KX) (.ref ?C_BadGrounds) (.type "ValueError") = some false := by
      unfold L2.KOf
      kit_is
    have kf_BadGrounds_LookupError : PySem.W.kitOne (L2.KOf KX) (.ref ?C_BadGrounds) (.type "LookupError") = some false := by
      unfold L2.KOf
      kit_is
    have kf_BadGrounds_ArithmeticError : PySem.W.kitOne (L2.KOf KX) (.ref ?C_BadGrounds) (.type "ArithmeticError") = some false := by
      unfold L2.KOf
      kit_is
    have kk_BadGrounds_BadValue : PySem.W.kitOne (L2.KOf KX) (.ref ?C_BadGrounds) (.ref ?C_BadValue) = some false := by
      unfold L2.KOf
      kit_is
    have kk_BadGrounds_BadText : PySem.W.kitOne (L2.KOf KX) (.ref ?C_BadGrounds) (.ref ?C_BadText) = some false := by
      unfold L2.KOf
      kit_is
    have kk_BadGrounds_NoPort : PySem.W.kitOne (L2.KOf KX) (.ref ?C_BadGrounds) (.ref ?C_NoPort) = some false := by
      unfold L2.KOf
      kit_is
    have kk_BadGrounds_NoName : PySem.W.kitOne (L2.KOf KX) (.ref ?C_BadGrounds) (.ref ?C_NoName) = some false := by
      unfold L2.KOf
      kit_is
    have kk_BadGrounds_NoDriver : PySem.W.kitOne (L2.KOf KX) (.ref ?C_BadGrounds) (.ref ?C_NoDriver) = some false := by
      unfold L2.KOf
      kit_is
    have kk_BadGrounds_NotNow : PySem.W.kitOne (L2.KOf KX) (.ref ?C_BadGrounds) (.ref ?C_NotNow) = some false := by
      unfold L2.KOf
      kit_is
    have kk_BadGrounds_TooMany : PySem.W.kitOne (L2.KOf KX) (.ref ?C_BadGrounds) (.ref ?C_TooMany) = some false := by
      unfold L2.KOf
      kit_is
    have kb_NoPort : PySem.W.kitOne (L2.KOf KX) (.ref ?C_NoPort) (.ref ?C_PullError) = some true := by
      unfold L2.KOf
      kit_is
    have ke_NoPort : PySem.W.kitOne (L2.KOf KX) (.ref ?C_NoPort) (.type "Exception") = some true := by
      unfold L2.KOf
      kit_is
    have kf_NoPort_ValueError : PySem.W.kitOne (L2.KOf KX) (.ref ?C_NoPort) (.type "ValueError") = some false := by
      unfold L2.KOf
      kit_is
    have kf_NoPort_LookupError : PySem.W.kitOne (L2.KOf KX) (.ref ?C_NoPort) (.type "LookupError") = some false := by
      unfold L2.KOf
      kit_is
    have kf_NoPort_ArithmeticError : PySem.W.kitOne (L2.KOf KX) (.ref ?C_NoPort) (.type "ArithmeticError") = some false := by
      unfold L2.KOf
      kit_is
    have kk_NoPort_BadValue : PySem.W.kitOne (L2.KOf KX) (.ref ?C_NoPort) (.ref ?C_BadValue) = some false := by
      unfold L2.KOf
      kit_is
    have kk_NoPort_BadText : PySem.W.kitOne (L2.KOf KX) (.ref ?C_NoPort) (.ref ?C_BadText) = some false := by
      unfold L2.KOf
      kit_is
    have kk_NoPort_BadGrounds : PySem.W.kitOne (L2.KOf KX) (.ref ?C_NoPort) (.ref ?C_BadGrounds) = some false := by
      unfold L2.KOf
      kit_is
    have kk_NoPort_NoName : PySem.W.kitOne (L2.KOf KX) (.ref ?C_NoPort) (.ref ?C_NoName) = some false := by
      unfold L2.KOf
      kit_is
    have kk_NoPort_NoDriver : PySem.W.kitOne (L2.KOf KX) (.ref ?C_NoPort) (.ref ?C_NoDriver) = some false := by
      unfold L2.KOf
      kit_is
    have kk_NoPort_NotNow : PySem.W.kitOne (L2.KOf KX) (.ref ?C_NoPort) (.ref ?C_NotNow) = some false := by
      unfold L2.KOf
      kit_is
    have kk_NoPort_TooMany : PySem.W.kitOne (L2.KOf KX) (.ref ?C_NoPort) (.ref ?C_TooMany) = some false := by
      unfold L2.KOf
      kit_is
    have kb_NoName : PySem.W.kitOne (L2.KOf KX) (.ref ?C_NoName) (.ref ?C_PullError) = some true := by
      unfold L2.KOf
      kit_is
    have ke_NoName : PySem.W.kitOne (L2.KOf KX) (.ref ?C_NoName) (.type "Exception") = some true := by
      unfold L2.KOf
      kit_is
    have kf_NoName_ValueError : PySem.W.kitOne (L2.KOf KX) (.ref ?C_NoName) (.type "ValueError") = some false := by
      unfold L2.KOf
      kit_is
    have kf_NoName_LookupError : PySem.W.kitOne (L2.KOf KX) (.ref ?C_NoName) (.type "LookupError") = some false := by
      unfold L2.KOf
      kit_is
    have kf_NoName_ArithmeticError : PySem.W.kitOne (L2.KOf KX) (.ref ?C_NoName) (.type "ArithmeticError") = some false := by
      unfold L2.KOf
      kit_is
    have kk_NoName_BadValue : PySem.W.kitOne (L2.KOf KX) (.ref ?C_NoName) (.ref ?C_BadValue) = some false := by
      unfold L2.KOf
      kit_is
    have kk_NoName_BadText : PySem.W.kitOne (L2.KOf KX) (.ref ?C_NoName) (.ref ?C_BadText) = some false := by
      unfold L2.KOf
      kit_is
    have kk_NoName_BadGrounds : PySem.W.kitOne (L2.KOf KX) (.ref ?C_NoName) (.ref ?C_BadGrounds) = some false := by
      unfold L2.KOf
      kit_is
    have kk_NoName_NoPort : PySem.W.kitOne (L2.KOf KX) (.ref ?C_NoName) (.ref ?C_NoPort) = some false := by
      unfold L2.KOf
      kit_is
    have kk_NoName_NoDriver : PySem.W.kitOne (L2.KOf KX) (.ref ?C_NoName) (.ref ?C_NoDriver) = some false := by
      unfold L2.KOf
      kit_is
    have kk_NoName_NotNow : PySem.W.kitOne (L2.KOf KX) (.ref ?C_NoName) (.ref ?C_NotNow) = some false := by
      unfold L2.KOf
      kit_is
    have kk_NoName_TooMany : PySem.W.kitOne (L2.KOf KX) (.ref ?C_NoName) (.ref ?C_TooMany) = some false := by
      unfold L2.KOf
      kit_is
    have kb_NoDriver : PySem.W.kitOne (L2.KOf KX) (.ref ?C_NoDriver) (.ref ?C_PullError) = some true := by
      unfold L2.KOf
      kit_is
    have ke_NoDriver : PySem.W.kitOne (L2.KOf KX) (.ref ?C_NoDriver) (.type "Exception") = some true := by
      unfold L2.KOf
      kit_is
    have kf_NoDriver_ValueError : PySem.W.kitOne (L2.KOf KX) (.ref ?C_NoDriver) (.type "ValueError") = some false := by
      unfold L2.KOf
      kit_is
    have kf_NoDriver_LookupError : PySem.W.kitOne (L2.KOf KX) (.ref ?C_NoDriver) (.type "LookupError") = some false := by
      unfold L2.KOf
      kit_is
    have kf_NoDriver_ArithmeticError : PySem.W.kitOne (L2.KOf KX) (.ref ?C_NoDriver) (.type "ArithmeticError") = some false := by
      unfold L2.KOf
      kit_is
    have kk_NoDriver_BadValue : PySem.W.kitOne (L2.KOf KX) (.ref ?C_NoDriver) (.ref ?C_BadValue) = some false := by
      unfold L2.KOf
      kit_is
    have kk_NoDriver_BadText : PySem.W.kitOne (L2.KOf KX) (.ref ?C_NoDriver) (.ref ?C_BadText) = some false := by
      unfold L2.KOf
      kit_is
    have kk_NoDriver_BadGrounds : PySem.W.kitOne (L2.KOf KX) (.ref ?C_NoDriver) (.ref ?C_BadGrounds) = some false := by
      unfold L2.KOf
      kit_is
    have kk_NoDriver_NoPort : PySem.W.kitOne (L2.KOf KX) (.ref ?C_NoDriver) (.ref ?C_NoPort) = some false := by
      unfold L2.KOf
      kit_is
    have kk_NoDriver_NoName : PySem.W.kitOne (L2.KOf KX) (.ref ?C_NoDriver) (.ref ?C_NoName) = some false := by
      unfold L2.KOf
      kit_is
    have kk_NoDriver_NotNow : PySem.W.kitOne (L2.KOf KX) (.ref ?C_NoDriver) (.ref ?C_NotNow) = some false := by
      unfold L2.KOf
      kit_is
    have kk_NoDriver_TooMany : PySem.W.kitOne (L2.KOf KX) (.ref ?C_NoDriver) (.ref ?C_TooMany) = some false := by
      unfold L2.KOf
      kit_is
    have kb_NotNow : PySem.W.kitOne (L2.KOf KX) (.ref ?C_NotNow) (.ref ?C_PullError) = some true := by
      unfold L2.KOf
      kit_is
    have ke_NotNow : PySem.W.kitOne (L2.KOf KX) (.ref ?C_NotNow) (.type "Exception") = some true := by
      unfold L2.KOf
      kit_is
    have kf_NotNow_ValueError : PySem.W.kitOne (L2.KOf KX) (.ref ?C_NotNow) (.type "ValueError") = some false := by
      unfold L2.KOf
      kit_is
    have kf_NotNow_LookupError : PySem.W.kitOne (L2.KOf KX) (.ref ?C_NotNow) (.type "LookupError") = some false := by
      unfold L2.KOf
      kit_is
    have kf_NotNow_ArithmeticError : PySem.W.kitOne (L2.KOf KX) (.ref ?C_NotNow) (.type "ArithmeticError") = some false := by
      unfold L2.KOf
      kit_is
    have kk_NotNow_BadValue : PySem.W.kitOne (L2.KOf KX) (.ref ?C_NotNow) (.ref ?C_BadValue) = some false := by
      unfold L2.KOf
      kit_is
    have kk_NotNow_BadText : PySem.W.kitOne (L2.KOf KX) (.ref ?C_NotNow) (.ref ?C_BadText) = some false := by
      unfold L2.KOf
      kit_is
    have kk_NotNow_BadGrounds : PySem.W.kitOne (L2.KOf KX) (.ref ?C_NotNow) (.ref ?C_BadGrounds) = some false := by
      unfold L2.KOf
      kit_is
    have kk_NotNow_NoPort : PySem.W.kitOne (L2.KOf KX) (.ref ?C_NotNow) (.ref ?C_NoPort) = some false := by
      unfold L2.KOf
      kit_is
    have kk_NotNow_NoName : PySem.W.kitOne (L2.KOf KX) (.ref ?C_NotNow) (.ref ?C_NoName) = some false := by
      unfold L2.KOf
      kit_is
    have kk_NotNow_NoDriver : PySem.W.kitOne (L2.KOf KX) (.ref ?C_NotNow) (.ref ?C_NoDriver) = some false := by
      unfold L2.KOf
      kit_is
    have kk_NotNow_TooMany : PySem.W.kitOne (L2.KOf KX) (.ref ?C_NotNow) (.ref ?C_TooMany) = some false := by
      unfold L2.KOf
      kit_is
    have kb_TooMany : PySem.W.kitOne (L2.KOf KX) (.ref ?C_TooMany) (.ref ?C_PullError) = some true := by
      unfold L2.KOf
      kit_is
    have ke_TooMany : PySem.W.kitOne (L2.KOf KX) (.ref ?C_TooMany) (.type "Exception") = some true := by
      unfold L2.KOf
      kit_is
    have kf_TooMany_ValueError : PySem.W.kitOne (L2.KOf KX) (.ref ?C_TooMany) (.type "ValueError") = some false := by
      unfold L2.KOf
      kit_is
    have kf_TooMany_LookupError : PySem.W.kitOne (L2.KOf KX) (.ref ?C_TooMany) (.type "LookupError") = some false := by
      unfold L2.KOf
      kit_is
    have kf_TooMany_ArithmeticError : PySem.W.kitOne (L2.KOf KX) (.ref ?C_TooMany) (.type "ArithmeticError") = some false := by
      unfold L2.KOf
      kit_is
    have kk_TooMany_BadValue : PySem.W.kitOne (L2.KOf KX) (.ref ?C_TooMany) (.ref ?C_BadValue) = some false := by
      unfold L2.KOf
      kit_is
    have kk_TooMany_BadText : PySem.W.kitOne (L2.KOf KX) (.ref ?C_TooMany) (.ref ?C_BadText) = some false := by
      unfold L2.KOf
      kit_is
    have kk_TooMany_BadGrounds : PySem.W.kitOne (L2.KOf KX) (.ref ?C_TooMany) (.ref ?C_BadGrounds) = some false := by
      unfold L2.KOf
      kit_is
    have kk_TooMany_NoPort : PySem.W.kitOne (L2.KOf KX) (.ref ?C_TooMany) (.ref ?C_NoPort) = some false := by
      unfold L2.KOf
      kit_is
    have kk_TooMany_NoName : PySem.W.kitOne (L2.KOf KX) (.ref ?C_TooMany) (.ref ?C_NoName) = some false := by
      unfold L2.KOf
      kit_is
    have kk_TooMany_NoDriver : PySem.W.kitOne (L2.KOf KX) (.ref ?C_TooMany) (.ref ?C_NoDriver) = some false := by
      unfold L2.KOf
      kit_is
    have kk_TooMany_NotNow : PySem.W.kitOne (L2.KOf KX) (.ref ?C_TooMany) (.ref ?C_NotNow) = some false := by
      unfold L2.KOf
      kit_is
    have xt := Sh.xtab_ok (K := (L2.KOf KX)) (B := ?C_PullError) (Sh.all8 e_BadValue e_BadText e_BadGrounds e_NoPort e_NoName e_NoDriver e_NotNow e_TooMany) (Sh.all8 (P := fun C => PySem.W.kitOne (L2.KOf KX) (.ref C) (.ref ?C_PullError) = some true) kb_BadValue kb_BadText kb_BadGrounds kb_NoPort kb_NoName kb_NoDriver kb_NotNow kb_TooMany) (Sh.all8 (P := fun C => ∀ D ∈ [?C_BadValue, ?C_BadText, ?C_BadGrounds, ?C_NoPort, ?C_NoName, ?C_NoDriver, ?C_NotNow, ?C_TooMany], PySem.W.kitOne (L2.KOf KX) (.ref C) (.ref D) = some (decide (C = D))) (Sh.all8 (P := fun D => PySem.W.kitOne (L2.KOf KX) (.ref ?C_BadValue) (.ref D) = some (decide (?C_BadValue = D))) Sh.kit_eq (Sh.kit_ne kk_BadValue_BadText) (Sh.kit_ne kk_BadValue_BadGrounds) (Sh.kit_ne kk_BadValue_NoPort) (Sh.kit_ne kk_BadValue_NoName) (Sh.kit_ne kk_BadValue_NoDriver) (Sh.kit_ne kk_BadValue_NotNow) (Sh.kit_ne kk_BadValue_TooMany)) (Sh.all8 (P := fun D => PySem.W.kitOne (L2.KOf KX) (.ref ?C_BadText) (.ref D) = some (decide (?C_BadText = D))) (Sh.kit_ne kk_BadText_BadValue) Sh.kit_eq (Sh.kit_ne kk_BadText_BadGrounds) (Sh.kit_ne kk_BadText_NoPort) (Sh.kit_ne kk_BadText_NoName) (Sh.kit_ne kk_BadText_NoDriver) (Sh.kit_ne kk_BadText_NotNow) (Sh.kit_ne kk_BadText_TooMany)) (Sh.all8 (P := fun D => PySem.W.kitOne (L2.KOf KX) (.ref ?C_BadGrounds) (.ref D) = some (decide (?C_BadGrounds = D))) (Sh.kit_ne kk_BadGrounds_BadValue) (Sh.kit_ne kk_BadGrounds_BadText) Sh.kit_eq (Sh.kit_ne kk_BadGrounds_NoPort) (Sh.kit_ne kk_BadGrounds_NoName) (Sh.kit_ne kk_BadGrounds_NoDriver) (Sh.kit_ne kk_BadGrounds_NotNow) (Sh.kit_ne kk_BadGrounds_TooMany)) (Sh.all8 (P := fun D => PySem.W.kitOne (L2.KOf KX) (.ref ?C_NoPort) (.ref D) = some (decide (?C_NoPort = D))) (Sh.kit_ne kk_NoPort_BadValue) (Sh.kit_ne kk_NoPort_BadText) (Sh.kit_ne kk_NoPort_BadGrounds) Sh.kit_eq (Sh.kit_ne kk_NoPort_NoName) (Sh.kit_ne kk_NoPort_NoDriver) (Sh.kit_ne kk_NoPort_NotNow) (Sh.kit_ne kk_NoPort_TooMany)) (Sh.all8 (P := fun D => PySem.W.kitOne (L2.KOf KX) (.ref ?C_NoName) (.ref D) = some (decide (?C_NoName = D))) (Sh.kit_ne kk_NoName_BadValue) (Sh.kit_ne kk_NoName_BadText) (Sh.kit_ne kk_NoName_BadGrounds) (Sh.kit_ne kk_NoName_NoPort) Sh.kit_eq (Sh.kit_ne kk_NoName_NoDriver) (Sh.kit_ne kk_NoName_NotNow) (Sh.kit_ne kk_NoName_TooMany)) (Sh.all8 (P := fun D => PySem.W.kitOne (L2.KOf KX) (.ref ?C_NoDriver) (.ref D) = some (decide (?C_NoDriver = D))) (Sh.kit_ne kk_NoDriver_BadValue) (Sh.kit_ne kk_NoDriver_BadText) (Sh.kit_ne kk_NoDriver_BadGrounds) (Sh.kit_ne kk_NoDriver_NoPort) (Sh.kit_ne kk_NoDriver_NoName) Sh.kit_eq (Sh.kit_ne kk_NoDriver_NotNow) (Sh.kit_ne kk_NoDriver_TooMany)) (Sh.all8 (P := fun D => PySem.W.kitOne (L2.KOf KX) (.ref ?C_NotNow) (.ref D) = some (decide (?C_NotNow = D))) (Sh.kit_ne kk_NotNow_BadValue) (Sh.kit_ne kk_NotNow_BadText) (Sh.kit_ne kk_NotNow_BadGrounds) (Sh.kit_ne kk_NotNow_NoPort) (Sh.kit_ne kk_NotNow_NoName) (Sh.kit_ne kk_NotNow_NoDriver) Sh.kit_eq (Sh.kit_ne kk_NotNow_TooMany)) (Sh.all8 (P := fun D => PySem.W.kitOne (L2.KOf KX) (.ref ?C_TooMany) (.ref D) = some (decide (?C_TooMany = D))) (Sh.kit_ne kk_TooMany_BadValue) (Sh.kit_ne kk_TooMany_BadText) (Sh.kit_ne kk_TooMany_BadGrounds) (Sh.kit_ne kk_TooMany_NoPort) (Sh.kit_ne kk_TooMany_NoName) (Sh.kit_ne kk_TooMany_NoDriver) (Sh.kit_ne kk_TooMany_NotNow) Sh.kit_eq)) (Sh.all8 (P := fun C => PySem.W.kitOne (L2.KOf KX) (.ref C) (.type "Exception") = some true) ke_BadValue ke_BadText ke_BadGrounds ke_NoPort ke_NoName ke_NoDriver ke_NotNow ke_TooMany) (Sh.all8 (P := fun C => ∀ n ∈ Sh.foreigns, PySem.W.kitOne (L2.KOf KX) (.ref C) (.type n) = some false) (Sh.fgn kf_BadValue_ValueError kf_BadValue_LookupError kf_BadValue_ArithmeticError) (Sh.fgn kf_BadText_ValueError kf_BadText_LookupError kf_BadText_ArithmeticError) (Sh.fgn kf_BadGrounds_ValueError kf_BadGrounds_LookupError kf_BadGrounds_ArithmeticError) (Sh.fgn kf_NoPort_ValueError kf_NoPort_LookupError kf_NoPort_ArithmeticError) (Sh.fgn kf_NoName_ValueError kf_NoName_LookupError kf_NoName_ArithmeticError) (Sh.fgn kf_NoDriver_ValueError kf_NoDriver_LookupError kf_NoDriver_ArithmeticError) (Sh.fgn kf_NotNow_ValueError kf_NotNow_LookupError kf_NotNow_ArithmeticError) (Sh.fgn kf_TooMany_ValueError kf_TooMany_LookupError kf_TooMany_ArithmeticError))
    have bx : PySem.W.subIn (L2.KOf KX) (.ref ?C_PullError) (.type "BaseException") = some true := by
      unfold L2.KOf
      k_is
    have bd : PySem.W.hasDictIn (L2.KOf KX) ?C_PullError = true := by
      unfold L2.KOf
      k_is
    have bt : PySem.W.typeIn (L2.KOf KX) (.ref ?C_PullError) = some (.type "type") := by
      unfold L2.KOf
      k_is
    have sb_BadValue : PySem.W.subIn (L2.KOf KX) (.ref ?C_BadValue) (.ref ?C_PullError) = some true := by
      unfold L2.KOf
      k_is
    have sb_BadText : PySem.W.subIn (L2.KOf KX) (.ref ?C_BadText) (.ref ?C_PullError) = some true := by
      unfold L2.KOf
      k_is
    have sb_BadGrounds : PySem.W.subIn (L2.KOf KX) (.ref ?C_BadGrounds) (.ref ?C_PullError) = some true := by
      unfold L2.KOf
      k_is
    have sb_NoPort : PySem.W.subIn (L2.KOf KX) (.ref ?C_NoPort) (.ref ?C_PullError) = some true := by
      unfold L2.KOf
      k_is
    have sb_NoName : PySem.W.subIn (L2.KOf KX) (.ref ?C_NoName) (.ref ?C_PullError) = some true := by
      unfold L2.KOf
      k_is
    have sb_NoDriver : PySem.W.subIn (L2.KOf KX) (.ref ?C_NoDriver) (.ref ?C_PullError) = some true := by
      unfold L2.KOf
      k_is
    have sb_NotNow : PySem.W.subIn (L2.KOf KX) (.ref ?C_NotNow) (.ref ?C_PullError) = some true := by
      unfold L2.KOf
      k_is
    have sb_TooMany : PySem.W.subIn (L2.KOf KX) (.ref ?C_TooMany) (.ref ?C_PullError) = some true := by
      unfold L2.KOf
      k_is
    have hm := Sh.hm_of (D := ?C_NoName) (Sh.all8 (P := fun C => PySem.W.exmOne (L2.KOf KX) (.ref C) (.ref ?C_PullError) = some true) (PySem.W.exm_ref bx bd bt sb_BadValue) (PySem.W.exm_ref bx bd bt sb_BadText) (PySem.W.exm_ref bx bd bt sb_BadGrounds) (PySem.W.exm_ref bx bd bt sb_NoPort) (PySem.W.exm_ref bx bd bt sb_NoName) (PySem.W.exm_ref bx bd bt sb_NoDriver) (PySem.W.exm_ref bx bd bt sb_NotNow) (PySem.W.exm_ref bx bd bt sb_TooMany))
    have n_range : mg "range" = none := by
      refine' Sh.at_none KX G ?e
      (case e => k_is)
    have n_int : mg "int" = none := by
      refine' Sh.at_none KX G ?e
      (case e => k_is)
    have n_len : mg "len" = none := by
      refine' Sh.at_none KX G ?e
      (case e => k_is)
    have n_isinstance : mg "isinstance" = none := by
      refine' Sh.at_none KX G ?e
      (case e => k_is)
    have n_tuple : mg "tuple" = none := by
      refine' Sh.at_none KX G ?e
      (case e => k_is)
    have n_bool : mg "bool" = none := by
      refine' Sh.at_none KX G ?e
      (case e => k_is)
    have n_str : mg "str" = none := by
      refine' Sh.at_none KX G ?e
      (case e => k_is)
    have n_ValueError : mg "ValueError" = none := by
      refine' Sh.at_none KX G ?e
      (case e => k_is)
    have n_LookupError : mg "LookupError" = none := by
      refine' Sh.at_none KX G ?e
      (case e => k_is)
    have n_ArithmeticError : mg "ArithmeticError" = none := by
      refine' Sh.at_none KX G ?e
      (case e => k_is)
    have n_Exception : mg "Exception" = none := by
      refine' Sh.at_none KX G ?e
      (case e => k_is)
    have d__law_numbers : Sh.DefAt (L2.KOf KX) mg "_law_numbers" (Sh.top 12) ["script"] := by
      unfold L2.KOf
      refine' Sh.at_def (st := Sh.top 12) KX G ?a ?l ?c ?k ?b
      (case a => k_is); (case l => k_is); (case c => k_is); (case k => k_is); (case b => exact fun _ _ _ _ _ _ us hl => match us, hl with | [_], _ => rfl)
    have d__law_draw : Sh.DefAt (L2.KOf KX) mg "_law_draw" (Sh.top 13) ["row", "at", "limit"] := by
      unfold L2.KOf
      refine' Sh.at_def (st := Sh.top 13) KX G ?a ?l ?c ?k ?b
      (case a => k_is); (case l => k_is); (case c => k_is); (case k => k_is); (case b => exact fun _ _ _ _ _ _ us hl => match us, hl with | [_, _, _], _ => rfl)
    have d__law_take : Sh.DefAt (L2.KOf KX) mg "_law_take" (Sh.top 14) ["row", "spot", "limit"] := by
      unfold L2.KOf
      refine' Sh.at_def (st := Sh.top 14) KX G ?a ?l ?c ?k ?b
      (case a => k_is); (case l => k_is); (case c => k_is); (case k => k_is); (case b => exact fun _ _ _ _ _ _ us hl => match us, hl with | [_, _, _], _ => rfl)
    have d__law_caught : Sh.DefAt (L2.KOf KX) mg "_law_caught" (Sh.top 17) ["at"] := by
      unfold L2.KOf
      refine' Sh.at_def (st := Sh.top 17) KX G ?a ?l ?c ?k ?b
      (case a => k_is); (case l => k_is); (case c => k_is); (case k => k_is); (case b => exact fun _ _ _ _ _ _ us hl => match us, hl with | [_], _ => rfl)
    have d__law_so : Sh.DefAt (L2.KOf KX) mg "_law_so" (Sh.top 11) ["found", "meant"] := by
      unfold L2.KOf
      refine' Sh.at_def (st := Sh.top 11) KX G ?a ?l ?c ?k ?b
      (case a => k_is); (case l => k_is); (case c => k_is); (case k => k_is); (case b => exact fun _ _ _ _ _ _ us hl => match us, hl with | [_, _], _ => rfl)
    have d__law_foreign : Sh.DefAt (L2.KOf KX) mg "_law_foreign" (Sh.top 16) ["value"] := by
      unfold L2.KOf
      refine' Sh.at_def (st := Sh.top 16) KX G ?a ?l ?c ?k ?b
      (case a => k_is); (case l => k_is); (case c => k_is); (case k => k_is); (case b => exact fun _ _ _ _ _ _ us hl => match us, hl with | [_], _ => rfl)
    have d__law_of : Sh.DefAt (L2.KOf KX) mg "_law_of" (Sh.top 15) ["value"] := by
      unfold L2.KOf
      refine' Sh.at_def (st := Sh.top 15) KX G ?a ?l ?c ?k ?b
      (case a => k_is); (case l => k_is); (case c => k_is); (case k => k_is); (case b => exact fun _ _ _ _ _ _ us hl => match us, hl with | [_], _ => rfl)
    have d_law : Sh.DefAt (L2.KOf KX) mg "law" (Sh.top 18) ["script"] := by
      unfold L2.KOf
      refine' Sh.at_def (st := Sh.top 18) KX G ?a ?l ?c ?k ?b
      (case a => k_is); (case l => k_is); (case c => k_is); (case k => k_is); (case b => exact fun _ _ _ _ _ _ us hl => match us, hl with | [_], _ => rfl)
    refine ⟨⟨_, d_law, fun _ _ _ _ _ _ _ => rfl⟩, fun base _ _ => Sh.gg_law ⟨n_range, n_int, n_len, g_PullError, g_BadValue, g_BadText, g_BadGrounds, g_NoPort, g_NoName, g_NoDriver, g_NotNow, g_TooMany, kx_BadValue, kx_BadText, kx_BadGrounds, kx_NoPort, kx_NoName, kx_NoDriver, kx_NotNow, z_TooMany, r_TooMany, r_NoName, gB, xa_at, xa_event, xa_name, xa_path, xa_word, xt, hm, n_isinstance, n_tuple, n_bool, n_str, n_ValueError, n_LookupError, n_ArithmeticError, n_Exception⟩ ⟨d__law_numbers, d__law_draw, d__law_take, d__law_caught, d__law_so, d__law_foreign, d__law_of, d_law⟩⟩
  case hN => decide
