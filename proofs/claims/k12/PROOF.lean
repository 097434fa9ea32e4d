import PyProof.Rows.All
import Wide.All
import OpenK.AllK
import Wide.FinOn
import HandS.ForMost
import HandS.ForExc
import HandS.TupAny
import HandS.Deep
import HandS.IsInst
import HandS.More
import HandS.Conv
import HandS.StrMore
import HandS.TupSets
import PySem.Challenge.RW_pullsafe_k12_protocols_told_apart
set_option Elab.async false
set_option linter.all false
set_option maxRecDepth 100000
set_option
        maxHeartbeats 4000000
/-! Sh0: values as trees, a store of cells, computations over them, and what it means that a piece of the text does such a computation. -/
namespace Sh
open PySem PySem.Spec
        PyProof.Rows L2

/-- a value: tuples are trees, what may change stands in a cell -/
inductive W where
  | non | bl (b : Bool) | int (i : Int) | str (x : Str) | tup (xs : List W) | loc (n : Nat) | rol (xs : List W) | ty (n : String) | ob (a : Addr)

inductive Cell where
  | lst (xs : List W)
  | dK (kvs : List (Key × W))
  | dT (kvs : List (List Key × W))
abbrev Mem := List Cell
abbrev Locs := List Addr

structure Exc where
  cls : Addr
  fs : Option (List (Str × W))

/-- a list that nobody writes -/
def RoL (K : PySem.W.Frag) (H : Hp) (a : Addr) (vs : List V) : Prop := (∃ o, H a = some (.frz o (.lst vs))) ∨ ∀ H' : Hp, SqL K H' a vs
theorem RoL.sq {K : PySem.W.Frag} {H : Hp} {a : Addr} {vs : List V} (h : RoL K H a vs) : SqL K H a vs := by
  rcases h with ⟨o, h⟩ | h
  · exact .inl (.inr ⟨o, h⟩)
  · exact h H
section
variable (K : PySem.W.Frag) (loc : Locs) (H : Hp)
mutual
inductive Rv : W → V → Prop
  | non : Rv .non .non
  | bl (b : Bool) : Rv (.bl b) (.bl b)
  | int (i : Int) : Rv (.int i) (.int i)
  | str (x : Str) : Rv (.str x) (.str x)
  | tup {ws : List W} {a : Addr} {vs : List V} : SqT K H a vs → Rvs ws vs → Rv (.tup ws) (.ref a)
  | loc {n : Nat} {a : Addr} : loc[n]? = some a → Rv (.loc n) (.ref a)
  | ty (n : String) : Rv (.ty n) (.ty n)
  | ob (a : Addr) : Rv (.ob a) (.ref a)
  | rol {ws : List W} {a : Addr} {vs : List V} : RoL K H a vs → Rvs ws vs → Rv (.rol ws) (.ref a)
inductive Rvs : List W → List V → Prop
  | nil : Rvs [] []
  | cons {w : W} {v : V} {ws : List W} {vs : List V} : Rv w v → Rvs ws vs → Rvs (w :: ws) (v :: vs)
end
end

def kvW {κ : Type} (K : PySem.W.Frag) (loc : Locs) (H : Hp) : List (κ × W) → List (κ × V) → Prop := Paired fun p q => p.1 = q.1 ∧ Rv K loc H p.2 q.2

/-- a cell at an address -/
def Rc (K : PySem.W.Frag) (loc : Locs) (H : Hp) (a : Addr) : Cell → Prop
  | .lst ws => ∃ vs, H a = some (.lst vs) ∧ Rvs K loc H ws vs
  | .dK kvs => ∃ vs, H a = some (.dK vs) ∧ kvW K loc H kvs vs
  | .dT kvs => ∃ vs, H a = some (.dT vs) ∧ kvW K loc H kvs vs

structure Rs (K : PySem.W.Frag) (mem : Mem) (loc : Locs) (H : Hp) : Prop where
  len : loc.length = mem.length
  nd : loc.Nodup
  cell : ∀ (i : Nat) (c : Cell), mem[i]? = some c → ∃ a, loc[i]? = some a ∧ Rc K loc H a c

/-- what later heaps and places keep -/
structure Ext (loc : Locs) (H : Hp) (loc' : Locs) (H' : Hp) : Prop where
  pre : loc <+: loc'
  tup : ∀ a xs, H a = some (.tup xs) → H' a = some (.tup xs)
  frz : ∀ a o u, H a = some (.frz o u) → H' a = some (.frz o u)
theorem Ext.refl {loc : Locs} {H : Hp} : Ext loc H loc H := ⟨List.prefix_refl _, fun _ _ h => h, fun _ _ _ h => h⟩
theorem Ext.trans {l1 l2 l3 : Locs} {H1 H2 H3 : Hp} (a : Ext l1 H1 l2 H2) (b : Ext l2 H2 l3 H3) : Ext l1 H1 l3 H3 :=
  ⟨a.pre.trans b.pre, fun x xs h => b.tup x xs (a.tup x xs h), fun x o u h => b.frz x o u (a.frz x o u h)⟩

section
variable {K : PySem.W.Frag} {loc loc' : Locs} {H H' : Hp}
theorem Ext.sqT (e : Ext loc H loc' H') {a : Addr} {xs : List V} (h : SqT K H a xs) : SqT K H' a xs := by
  rcases h with
          (h | ⟨o, h⟩) | h
  · exact .inl (.inl (e.tup _ _ h))
  · exact .inl (.inr ⟨o, e.frz _ _ _ h⟩)
  · exact .inr h
theorem Ext.rol (e : Ext loc H loc' H') {a : Addr} {xs : List V} (h : RoL K H a xs) : RoL K H' a xs := by
  rcases h with ⟨o, h⟩ | h
  · exact .inl ⟨o, e.frz _ _ _ h⟩
  · exact .inr h
theorem Ext.at (e : Ext loc H loc' H') {n : Nat} {a : Addr} (h : loc[n]? = some a) : loc'[n]? = some a := by
  obtain ⟨t, rfl⟩ := e.pre
  rw [List.getElem?_append_left]
  · exact h
  · exact (List.getElem?_eq_some_iff.mp h).1
mutual
theorem Rv.mono (e : Ext loc H loc' H') : ∀ {w : W} {v : V}, Rv K loc H w v → Rv K loc' H' w v
  | _, _, .non => .non
  | _, _, .bl b => .bl b
  | _, _, .int i => .int i
  | _, _, .str x => .str x
  | _, _, .tup h r => .tup (e.sqT h) (Rvs.mono e r)
  | _, _, .loc h => .loc (e.at h)
  | _, _, .rol h r => .rol (e.rol h) (Rvs.mono e r)
  | _, _, .ty n => .ty n
  | _, _, .ob a => .ob a
theorem Rvs.mono (e : Ext loc H loc' H') : ∀ {ws : List W} {vs : List V}, Rvs K loc H ws vs → Rvs K loc' H' ws vs
  | _, _, .nil => .nil
  | _, _, .cons r t => .cons (Rv.mono e r) (Rvs.mono e t)
end
theorem Paired.imp2 {α β : Type} {F G : α → β → Prop} (h : ∀ a b, F a b → G a b) : ∀ {l₁ : List α} {l₂ : List β}, Paired F l₁ l₂ → Paired G l₁ l₂
  | _, _, .nil => .nil
  | _, _, .cons r t => .cons (h _ _ r) (Paired.imp2 h t)
theorem kvW.mono {κ : Type} (e : Ext loc H loc' H') {xs : List (κ × W)} {ys : List (κ × V)} (h : kvW K loc H xs ys) : kvW K loc' H' xs ys :=
  Paired.imp2 (fun _ _ r => ⟨r.1, Rv.mono e r.2⟩) h
theorem Rvs.length : ∀ {ws : List W} {vs : List V}, Rvs K loc H ws vs → ws.length = vs.length
  | _, _, .nil => rfl
  | _, _, .cons _ t => congrArg Nat.succ (Rvs.length t)
theorem Rvs.get : ∀ {ws : List W} {vs : List V} {i : Nat} {w : W}, Rvs K loc H ws vs → ws[i]? = some w → ∃ v, vs[i]? = some v ∧ Rv K loc H w v
  | _, _, 0, _, .cons r _, e => ⟨_, rfl, by cases e; exact r⟩
  | _, _, i + 1, _, .cons _ t, e => Rvs.get (i := i) t e
theorem Rvs.back : ∀ {ws : List W} {vs : List V} {i : Nat} {v : V}, Rvs K loc H ws vs → vs[i]? = some v → ∃ w, ws[i]? = some w ∧ Rv K loc H w v
  | _, _, 0, _, .cons r _, e => ⟨_, rfl, by cases e; exact r⟩
  | _, _, i + 1, _, .cons _ t, e => Rvs.back (i := i) t e
theorem Rvs.append : ∀ {ws ws' : List W} {vs vs' : List V}, Rvs K loc H ws vs → Rvs K loc H ws' vs' → Rvs K loc H (ws ++ ws') (vs ++ vs')
  | _, _, _, _, .nil, s => s
  | _, _, _, _, .cons r t, s => .cons r (Rvs.append t s)
theorem Rvs.drop : ∀ {ws : List W} {vs : List V} (n : Nat), Rvs K loc H ws vs → Rvs K loc H (ws.drop n) (vs.drop n)
  | _, _, 0, r => r
  | _, _, _ + 1, .nil => .nil
  | _, _, n + 1, .cons _ t => Rvs.drop n t
theorem Rvs.take : ∀ {ws : List W} {vs : List V} (n : Nat), Rvs K loc H ws vs → Rvs K loc H (ws.take n) (vs.take n)
  | _, _, 0, _ => .nil
  | _, _, _ + 1, .nil => .nil
  | _, _, n + 1, .cons r t => .cons r (Rvs.take n t)
theorem Rvs.set {w : W} {v : V} (q : Rv K loc H w v) : ∀ {ws : List W} {vs : List V} (n : Nat), Rvs K loc H ws vs → Rvs K loc H (ws.set n w) (vs.set n v)
  | _, _, _, .nil => .nil
  | _, _, 0, .cons _ t => .cons q t
  | _, _, n + 1, .cons r t => .cons r (Rvs.set q n t)
end

/-! ### a heap that changes at one tracked place, or grows -/
section
variable {K : PySem.W.Frag} {loc : Locs} {H : Hp} {mem : Mem}
def MutO : HO → Prop
  | .lst _ => True | .dK _ => True | .dT _ => True | _ => False
theorem Ext.wr {a : Addr} {o u : HO} (h : H a = some o) (m : MutO o) : Ext loc H loc (upd H a u) :=
  ⟨List.prefix_refl _, fun b xs e => by
    rw [upd_ne (ne_of e h (by rintro rfl; exact m))]; exact e, fun b ob w e => by
    rw [upd_ne (ne_of e h (by rintro rfl; exact m))]; exact e⟩
theorem Ext.new {p : Addr} {o : HO} (h : H p = none) : Ext loc H loc (upd H p o) :=
  ⟨List.prefix_refl _, fun b xs e => by rw [upd_ne (ne_of_none e h)]; exact e, fun b ob w e => by rw [upd_ne (ne_of_none e h)]; exact e⟩
theorem Rs.lt (r : Rs K mem loc H) {i : Nat} {c : Cell} (h : mem[i]? = some c) : i < loc.length := by
  rw [r.len]; exact (List.getElem?_eq_some_iff.mp h).1
theorem Rs.ne (r : Rs K mem loc H) {i j : Nat} {a b : Addr} (hi : loc[i]? = some a) (hj : loc[j]? = some b) (h : i ≠ j) : a ≠ b := fun e => by
  subst e
  obtain ⟨h1, e1⟩ := List.getElem?_eq_some_iff.mp hi
  obtain ⟨h2, e2⟩ := List.getElem?_eq_some_iff.mp hj
  exact h ((List.getElem_inj r.nd).mp (e1.trans e2.symm))
/-- a cell as it stands is kept by a change elsewhere -/
theorem Rc.keep {a b : Addr} {c : Cell} {u : HO} (e : Ext loc H loc (upd H b u)) (n : a ≠ b) (h : Rc K loc H a c) : Rc K loc (upd H b u) a c := by
  cases c with
  | lst ws => obtain ⟨vs, h1, h2⟩ := h; exact ⟨vs, by rw [upd_ne n]; exact h1, h2.mono e⟩
  | dK kvs => obtain ⟨vs, h1, h2⟩ := h; exact ⟨vs, by rw [upd_ne n]; exact h1, h2.mono e⟩
  | dT kvs => obtain ⟨vs, h1, h2⟩ := h; exact ⟨vs, by rw [upd_ne n]; exact h1, h2.mono e⟩
/-- .. by a new object -/
theorem Rc.grow {a p : Addr} {c : Cell} {u : HO} (hp : H p = none) (h : Rc K loc H a c) : Rc K loc (upd H p u) a c := by
  have e : Ext loc H loc (upd H p u) := Ext.new hp
  cases c with
  | lst ws => obtain ⟨vs, h1, h2⟩ := h; exact ⟨vs, by rw [upd_ne (ne_of_none h1 hp)]; exact h1, h2.mono e⟩
  | dK kvs => obtain ⟨vs, h1, h2⟩ := h; exact ⟨vs, by rw [upd_ne (ne_of_none h1 hp)]; exact h1, h2.mono e⟩
  | dT kvs => obtain ⟨vs, h1, h2⟩ := h; exact ⟨vs, by rw [upd_ne (ne_of_none h1 hp)]; exact h1, h2.mono e⟩
theorem Rs.grow (r : Rs K mem loc H) {p : Addr} {u : HO} (hp : H p = none) : Rs K mem loc (upd H p u) :=
  ⟨r.len, r.nd, fun i c hi => let ⟨a, h1, h2⟩ := r.cell i c hi; ⟨a, h1, h2.grow hp⟩⟩
/-- write a cell -/
theorem Rs.write (r : Rs K mem loc H) {i : Nat} {a : Addr} {o u : HO} {c : Cell} (hi : loc[i]? = some a) (ho : H a = some o) (m : MutO o)
    (hc : Rc K loc (upd H a u) a c) : Rs K (mem.set i c) loc (upd H a u) := by
  have e : Ext loc H loc (upd H a u) := Ext.wr ho m
  refine ⟨by rw [List.length_set]; exact r.len, r.nd, fun j d hj => ?_⟩
  by_cases hij : i = j
  · subst hij
    have hl : i < mem.length := by rw [← r.len]; exact (List.getElem?_eq_some_iff.mp hi).1
    rw [List.getElem?_set_self hl] at hj
    cases hj
    exact ⟨a, hi, hc⟩
  · rw [List.getElem?_set_ne hij] at hj
    obtain ⟨b, hb, hr⟩ := r.cell j d hj
    exact ⟨b, hb, hr.keep e (r.ne hb hi (fun z => hij z.symm))⟩
/-- places stand for objects that are there -/
theorem Rs.notin (r : Rs K mem loc H) {p : Addr} (hp : H p = none) : p ∉ loc := fun hm => by
  obtain ⟨i, hi, e⟩ := List.getElem_of_mem hm
  have hl : i < mem.length := by rw [← r.len]; exact hi
  obtain ⟨a, h1, h2⟩ := r.cell i mem[i] (List.getElem?_eq_getElem hl)
  rw [List.getElem?_eq_getElem hi, e] at h1
  cases h1
  revert h2
  cases mem[i] with
  | lst ws => rintro ⟨vs, h1, _⟩; rw [hp] at h1; cases h1
  | dK ws => rintro ⟨vs, h1, _⟩; rw [hp] at h1; cases h1
  | dT ws => rintro ⟨vs, h1, _⟩; rw [hp] at h1; cases h1
/-- a new cell -/
theorem Ext.alloc {p : Addr} {o : HO} (hp : H p = none) : Ext loc H (loc ++ [p]) (upd H p o) :=
  ⟨List.prefix_append _ _, (Ext.new (loc := loc) hp).tup, (Ext.new (loc := loc) hp).frz⟩
theorem Rc.more {a : Addr} {c : Cell} {l2 : Locs} (e : Ext loc H l2 H) (h : Rc K loc H a c) : Rc K l2 H a c := by
  cases c with
  | lst ws => obtain ⟨vs, h1, h2⟩ := h; exact ⟨vs, h1, h2.mono e⟩
  | dK kvs => obtain ⟨vs, h1, h2⟩ := h; exact ⟨vs, h1, h2.mono e⟩
  | dT kvs => obtain ⟨vs, h1, h2⟩ := h; exact ⟨vs, h1, h2.mono e⟩
theorem Rs.alloc (r : Rs K mem loc H) {p : Addr} {o : HO} {c : Cell} (hp : H p = none) (hc : Rc K (loc ++ [p]) (upd H p o) p c) : Rs K (mem ++ [c]) (loc ++ [p]) (upd H p o) := by
  refine ⟨by rw [List.length_append, List.length_append, r.len]; rfl, ?_, fun i d hi => ?_⟩
  · rw [List.nodup_append]
    refine ⟨r.nd, by simp, fun a ha b hb => ?_⟩
    have e : b = p := by simpa using hb
    rw [e]
    exact fun z => r.notin hp (z ▸ ha)
  · by_cases hl : i < mem.length
    · rw [List.getElem?_append_left hl] at hi
      obtain ⟨a, h1, h2⟩ := r.cell i d hi
      refine ⟨a, by rw [List.getElem?_append_left (by rw [r.len]; exact hl)]; exact h1, (h2.grow hp).more ⟨List.prefix_append _ _, fun _ _ h => h, fun _ _ _ h => h⟩⟩
    · have hi' : i = mem.length := by
        have :=
                (List.getElem?_eq_some_iff.mp hi).1
        rw [List.length_append, List.length_singleton] at this
        omega
      subst hi'
      rw [List.getElem?_append_right (Nat.le_refl _), Nat.sub_self] at hi
      cases hi
      exact ⟨p, by rw [List.getElem?_append_right (by rw [r.len]; exact Nat.le_refl _), r.len, Nat.sub_self]; rfl, hc⟩
end
end Sh
set_option linter.all false
set_option maxRecDepth 100000
set_option
        maxHeartbeats 4000000
/-! Sh1: computations, what a reading of one asks, expressions and tests. -/
namespace Sh
open PySem PySem.Spec
        PyProof.Rows L2

inductive Res (α : Type) where
  | ok (a : α) (m : Mem) | exc (x : Exc) (m : Mem) | bad
abbrev SM (α : Type) := Mem → Res α
def SM.pure {α : Type} (a : α) : SM α := fun m => .ok a m
def SM.bind {α β : Type} (x : SM α) (f : α → SM β) : SM β := fun m =>
  match x m with
  | .ok a m' => f a m'
  | .exc e m' => .exc e m'
  | .bad => .bad
abbrev VEnv := List (Option W)
abbrev EM := VEnv → SM W
abbrev BM := VEnv → SM Bool
abbrev AM := VEnv → SM (List W)
/-- an operation on values: none where it isn't known -/
abbrev Op1 := W → Mem → Option (W × Mem)
abbrev Op2 := W → W → Mem → Option (W × Mem)
abbrev OpN := List W → Mem → Option (W × Mem)
def lift {α : Type} (o : Option (α × Mem)) : Res α := match o with | some (a, m) => .ok a m | none => .bad

def Res.Post {α : Type} (r : Res α) (ok : α → Mem → Prop) (ex : Exc → Mem → Prop) : Prop :=
  match r with
  | .ok a m => ok a m
  | .exc x m => ex x m
  | .bad => False
theorem Res.Post.imp {α : Type} {r : Res α} {ok ok' : α → Mem → Prop} {ex ex' : Exc → Mem → Prop} (h : r.Post ok ex) (h1 : ∀ a m, ok a m → ok' a m) (h2 : ∀ x m, ex x m → ex' x m) : r.Post ok' ex' := by
  cases r with
  | ok a m => exact h1 _ _ h
  | exc x m => exact h2 _ _ h
  | bad => exact h
theorem post_bind {α β : Type} {x : SM α} {f : α → SM β} {m : Mem} {ok : β → Mem → Prop} {ex : Exc → Mem → Prop} (h : (SM.bind x f m).Post ok ex) : (x m).Post (fun a m' => (f a m').Post ok ex) ex := by
  unfold SM.bind at h
  cases e : x m with
  | ok a m' => rw [e] at h; exact h
  | exc x m' => rw [e] at h; exact h
  | bad => rw [e] at h; exact h
theorem post_lift {α : Type} {o : Option (α × Mem)} {ok : α → Mem → Prop} {ex : Exc → Mem → Prop} (h : (lift o).Post ok ex) : ∃ a m, o = some (a, m) ∧ ok a m := by
  cases o with
  | none => exact h.elim
  | some p => exact ⟨p.1, p.2, rfl, h⟩

/-! ### slots -/
structure REnv (K : PySem.W.Frag) (loc : Locs) (H : Hp) (env : VEnv) (σ : L2.St) : Prop where
  len : env.length = σ.length
  get : ∀ (i : Nat) (w : W), env[i]? = some (some w) → ∃ v, σ[i]? = some (some v) ∧ Rv K loc H w v
def Rx (K : PySem.W.Frag) (loc : Locs) (H : Hp) (x : Exc) (cls : Value) (d : Option Addr) : Prop :=
  cls = .ref x.cls ∧ match x.fs with
    | none => d = none
    | some fs => ∃ dx vs, d = some dx ∧ H dx = some (.xd vs) ∧ kvW K loc H fs vs
section
variable {K : PySem.W.Frag} {loc loc' : Locs} {H H' : Hp} {env : VEnv} {σ : L2.St}
theorem REnv.mono (r : REnv K loc H env σ) (e : Ext loc H loc' H') : REnv K loc' H' env σ :=
  ⟨r.len, fun i w h => let ⟨v, h1, h2⟩ := r.get i w h; ⟨v, h1, h2.mono e⟩⟩
theorem REnv.set (r : REnv K loc H env σ) {w : W} {v : V} (q : Rv K loc H w v) (i : Nat) : REnv K loc H (env.set i (some w)) (σ.set i (some v)) := by
  refine ⟨by rw [List.length_set, List.length_set]; exact r.len, fun j u h => ?_⟩
  by_cases hij : i = j
  · subst hij
    by_cases hl : i < env.length
    · rw [List.getElem?_set_self hl] at h
      cases h
      exact ⟨v, by rw [List.getElem?_set_self (by rw [← r.len]; exact hl)], q⟩
    · rw [List.getElem?_eq_none (by rw [List.length_set]; omega)] at h
      cases h
  · rw [List.getElem?_set_ne hij] at h ⊢
    exact r.get j u h
theorem REnv.unset (r : REnv K loc H env σ) (i : Nat) : REnv K loc H (env.set i none) (σ.set i none) := by
  refine ⟨by rw [List.length_set, List.length_set]; exact r.len, fun j u h => ?_⟩
  by_cases hij : i = j
  · subst hij
    by_cases hl : i < env.length
    · rw [List.getElem?_set_self hl] at h
      cases h
    · rw [List.getElem?_eq_none (by rw [List.length_set]; omega)] at h
      cases h
  · rw [List.getElem?_set_ne hij] at h ⊢
    exact r.get j u h
end

/-! ### what a computation asks as a reading -/
section
variable (K : PySem.W.Frag) (W' : WX)
/-- what is wanted behind a value w with the store mem' -/
def okQ (loc : Locs) (H : Hp) (Q : VK) (w : W) (mem' : Mem) : Prop := ∀ v H' loc', Ext loc H loc' H' → Rs K mem' loc' H' → Rv K loc' H' w v → Q v H'
def okB (loc : Locs) (H : Hp) (Q : Bool → Hp → Prop) (b : Bool) (mem' : Mem) : Prop := ∀ H' loc', Ext loc H loc' H' → Rs K mem' loc' H' → Q b H'
def okA (loc : Locs) (H : Hp) (Q : List V → Hp → Prop) (ws : List W) (mem' : Mem) : Prop := ∀ vs H' loc', Ext loc H loc' H' → Rs K mem' loc' H' → Rvs K loc' H' ws vs → Q vs H'
def exQ (σ : L2.St) (loc : Locs) (H : Hp) (x : Exc) (mem' : Mem) : Prop := ∀ cls d H' loc', Ext loc H loc' H' → Rs K mem' loc' H' → Rx K loc' H' x cls d → W' cls d σ H'
def denE (m : EM) : TE := fun σ H Q => ∃ env mem loc, REnv K loc H env σ ∧ Rs K mem loc H ∧ (m env mem).Post (okQ K loc H Q) (exQ K W' σ loc H)
def denB (m : BM) : TT := fun σ H Q => ∃ env mem loc, REnv K loc H env σ ∧ Rs K mem loc H ∧ (m env mem).Post (okB K loc H Q) (exQ K W' σ loc H)
def denA (m : AM) : TA := fun σ H Q => ∃ env mem loc, REnv K loc H env σ ∧ Rs K mem loc H ∧ (m env mem).Post (okA K loc H Q) (exQ K W' σ loc H)
end
section
variable {K : PySem.W.Frag} {W' : WX} {loc loc' : Locs} {H H' : Hp} {σ : L2.St} {Q : VK} {x : Exc} {mem' : Mem}
theorem exQ.mono (e : Ext loc H loc' H') (h : exQ K W' σ loc H x mem') : exQ K W' σ loc' H' x mem' := fun cls d H2 l2 e2 => h cls d H2 l2 (e.trans e2)
theorem okQ.mono {w : W} (e : Ext loc H loc' H') (h : okQ K loc H Q w mem') : okQ K loc' H' Q w mem' := fun v H2 l2 e2 => h v H2 l2 (e.trans e2)
theorem okB.mono {w : Bool} {Q : Bool → Hp → Prop} (e : Ext loc H loc' H') (h : okB K loc H Q w mem') : okB K loc' H' Q w mem' := fun H2 l2 e2 => h H2 l2 (e.trans e2)
theorem okA.mono {w : List W} {Q : List V → Hp → Prop} (e : Ext loc H loc' H') (h : okA K loc H Q w mem') : okA K loc' H' Q w mem' := fun v H2 l2 e2 => h v H2 l2 (e.trans e2)
end

/-- the judgements -/
def SE (X : Cx) (W' : WX) (e : Expr) (m : EM) : Prop := PE X e (denE X.K W' m)
def SB (X : Cx) (W' : WX) (e : Expr) (m : BM) : Prop := PT X e (denB X.K W' m)
def SW (X : Cx) (W' : WX) (e : Expr) (m : BM) : Prop := PW X e (denB X.K W' m)
def SA (X : Cx) (W' : WX) (es : List Expr) (m : AM) : Prop := PA X es (denA X.K W' m)
section
variable {X : Cx} {e : Expr}
theorem pe_imp {t t' : TE} (h : PE X e t) (i : ∀ σ H Q, t' σ H Q → t σ H Q) : PE X e t' := ⟨fun pins s σ H Q I q => h.run pins s σ H Q I (i σ H Q q)⟩
theorem pt_imp {t t' : TT} (h : PT X e t) (i : ∀ σ H Q, t' σ H Q → t σ H Q) : PT X e t' := ⟨fun pins s σ H Q I q => h.run pins s σ H Q I (i σ H Q q)⟩
theorem pw_imp {t t' : TT} (h : PW X e t) (i : ∀ σ H Q, t' σ H Q → t σ H Q) : PW X e t' := ⟨fun wh pins s σ H Q I q => h.run wh pins s σ H Q I (i σ H Q q)⟩
theorem pa_imp {es : List Expr} {t t' : TA} (h : PA X es t) (i : ∀ σ H Q, t' σ H Q → t σ H Q) : PA X es t' := ⟨fun p pins s σ H Q I q => h.run p pins s σ H Q I (i σ H Q q)⟩
theorem ps_imp {s : Stmt} {t t' : TS} (h : PS X s t) (i : ∀ D σ H, t' D σ H → t D σ H) : PS X s t' := ⟨fun pins s σ H D I q => h.run pins s σ H D I (i D σ H q)⟩
theorem pss_imp {s : List Stmt} {t t' : TS} (h : PSs X s t) (i : ∀ D σ H, t' D σ H → t D σ H) : PSs X s t' := ⟨fun pins s σ H D I q => h.run pins s σ H D I (i D σ H q)⟩
end

/-! ### one part, then what is done with it -/
section
variable {K : PySem.W.Frag} {W' : WX} {σ : L2.St} {H : Hp}
theorem denE_then {β : Type} {ma : EM} {k : VEnv → W → SM β} {env : VEnv} {mem : Mem} {loc : Locs} {ok : β → Mem → Prop} {Q : VK}
    (re : REnv K loc H env σ) (rs : Rs K mem loc H) (h : (SM.bind (ma env) (k env) mem).Post ok (exQ K W' σ loc H))
    (hk : ∀ w mem1 v H1 loc1, Ext loc H loc1 H1 → Rs K mem1 loc1 H1 → Rv K loc1 H1 w v → REnv K loc1 H1 env σ → (k env w mem1).Post ok (exQ K W' σ loc1 H1) → Q v H1) : denE K W' ma σ H Q :=
  ⟨env, mem, loc, re, rs, (post_bind h).imp (fun w mem1 hp v H1 loc1 e r q => hk w mem1 v H1 loc1 e r q (re.mono e) (hp.imp (fun _ _ z => z) fun _ _ z => z.mono e)) fun _ _ z => z⟩
theorem denB_then {β : Type} {ma : BM} {k : VEnv → Bool → SM β} {env : VEnv} {mem : Mem} {loc : Locs} {ok : β → Mem → Prop} {Q : Bool → Hp → Prop}
    (re : REnv K loc H env σ) (rs : Rs K mem loc H) (h : (SM.bind (ma env) (k env) mem).Post ok (exQ K W' σ loc H))
    (hk : ∀ b mem1 H1 loc1, Ext loc H loc1 H1 → Rs K mem1 loc1 H1 → REnv K loc1 H1 env σ → (k env b mem1).Post ok (exQ K W' σ loc1 H1) → Q b H1) : denB K W' ma σ H Q :=
  ⟨env, mem, loc, re, rs, (post_bind h).imp (fun w mem1 hp H1 loc1 e r => hk w mem1 H1 loc1 e r (re.mono e) (hp.imp (fun _ _ z => z) fun _ _ z => z.mono e)) fun _ _ z => z⟩
theorem denA_then {β : Type} {ma : AM} {k : VEnv → List W → SM β} {env : VEnv} {mem : Mem} {loc : Locs} {ok : β → Mem → Prop} {Q : List V → Hp → Prop}
    (re : REnv K loc H env σ) (rs : Rs K mem loc H) (h : (SM.bind (ma env) (k env) mem).Post ok (exQ K W' σ loc H))
    (hk : ∀ ws mem1 vs H1 loc1, Ext loc H loc1 H1 → Rs K mem1 loc1 H1 → Rvs K loc1 H1 ws vs → REnv K loc1 H1 env σ → (k env ws mem1).Post ok (exQ K W' σ loc1 H1) → Q vs H1) : denA K W' ma σ H Q :=
  ⟨env, mem, loc, re, rs, (post_bind h).imp (fun w mem1 hp v H1 loc1 e r q => hk w mem1 v H1 loc1 e r q (re.mono e) (hp.imp (fun _ _ z => z) fun _ _ z => z.mono e)) fun _ _ z => z⟩
end

/-! ### names, constants -/
def varE (i : Nat) : EM := fun env mem => match env[i]? with
  | some (some w) => .ok w mem
  | _ => .bad
def cE (w : W) : EM := fun _ mem => .ok w mem
def flatW : W → V
  | .non => .non | .bl b => .bl b | .int i => .int i | .str x => .str x | _ => .non
def isFlat : W → Bool
  | .non => true | .bl _ => true | .int _ => true | .str _ => true | _ => false
theorem rv_flat {K : PySem.W.Frag} {loc : Locs} {H : Hp} {w : W} (h : isFlat w = true) : Rv K loc H w (flatW w) := by
  cases w with
  | non => exact .non
  | bl b => exact .bl b
  | int i => exact .int i
  | str x => exact .str x
  | _ => cases h
section
variable {X : Cx} {W' : WX} {pos : Pos}
theorem se_v (i : Nat) {x : Str} (hN : X.N[i]? = some x := by rfl) (hv : Vis X.env.scope x := by first | exact Or.inl rfl | exact Or.inr (Or.inl rfl) | exact Or.inr (Or.inr rfl)) (hd : (x == ("__debug__" : Str)) = false := by decide)
    (hcd : (x == ("__classdict__" : Str)) = false := by decide) : SE X W' (.Name x pos) (varE i) := by
  refine pe_imp (pv i hN hv hd hcd) fun σ H Q h => ?_
  obtain ⟨env, mem, loc, re, rs, h⟩ := h
  unfold varE at h
  split at h
  · rename_i w hw
    obtain ⟨v, h1, h2⟩ := re.get i w hw
    exact ⟨v, h1, h v H loc Ext.refl rs h2⟩
  · exact h.elim
theorem se_const {v : V} (w : W) (hp : PE X e (tC v)) (hr : ∀ loc H, Rv X.K loc H w v) : SE X W' e (cE w) :=
  pe_imp hp fun σ H Q ⟨env, mem, loc, re, rs, h⟩ => h v H loc Ext.refl rs (hr _ _)
theorem se_int {i : Int} {j} : SE X W' (.Constant (.int i) j pos) (cE (.int i)) := se_const _ pe_int fun _ _ => .int i
theorem se_bl {b j} : SE X W' (.Constant (.bool b) j pos) (cE (.bl b)) := se_const _ pe_bl fun _ _ => .bl b
theorem se_non {j} : SE X W' (.Constant .none j pos) (cE .non) := se_const _ pe_non fun _ _ => .non
theorem se_str {x j} : SE X W' (.Constant (.str x) j pos) (cE (.str x)) := se_const _ pe_str fun _ _ => .str x
end

/-! ### operations by values -/
def bin (f : Op2) (ma mb : EM) : EM := fun env => SM.bind (ma env) fun x => SM.bind (mb env) fun y => fun m => lift (f x y m)
def un (f : Op1) (ma : EM) : EM := fun env => SM.bind (ma env) fun x => fun m => lift (f x m)
def opP (K : PySem.W.Frag) (f : Op2) : R2 := fun x y H Q => ∃ wx wy mem loc, Rs K mem loc H ∧ Rv K loc H wx x ∧ Rv K loc H wy y ∧ ∃ w mem', f wx wy mem = some (w, mem') ∧ okQ K loc H Q w mem'
def unP (K : PySem.W.Frag) (f : Op1) : V → Hp → VK → Prop := fun x H Q => ∃ wx mem loc, Rs K mem loc H ∧ Rv K loc H wx x ∧ ∃ w mem', f wx mem = some (w, mem') ∧ okQ K loc H Q w mem'
def caP (K : PySem.W.Frag) (f : OpN) : List V → Hp → VK → Prop := fun xs H Q => ∃ ws mem loc, Rs K mem loc H ∧ Rvs K loc H ws xs ∧ ∃ w mem', f ws mem = some (w, mem') ∧ okQ K loc H Q w mem'
section
variable {K : PySem.W.Frag} {W' : WX} {σ : L2.St} {H : Hp} {Q : VK} {ma mb : EM}
theorem den_bin {f : Op2} (h : denE K W' (bin f ma mb) σ H Q) : denE K W' ma σ H fun x H1 => denE K W' mb σ H1 fun y H2 => opP K f x y H2 Q := by
  obtain ⟨env, mem, loc, re, rs, h⟩ := h
  refine denE_then (k := fun env x => SM.bind (mb env) fun y => fun m => lift (f x y m)) re rs h fun x mem1 v H1 loc1 e1 rs1 rv1 re1 h1 => ?_
  refine denE_then (k := fun env y => fun m => lift (f x y m)) re1 rs1 h1 fun y mem2 v2 H2 loc2 e2 rs2 rv2 re2 h2 => ?_
  obtain ⟨w, mem', e, q⟩ := post_lift h2
  exact ⟨x, y, mem2, loc2, rs2, rv1.mono e2, rv2, w, mem', e, q.mono (e1.trans e2)⟩
theorem den_un {f : Op1} (h : denE K W' (un f ma) σ H Q) : denE K W' ma σ H fun x H1 => unP K f x H1 Q := by
  obtain ⟨env, mem, loc, re, rs, h⟩ := h
  refine denE_then (k := fun env x => fun m => lift (f x m)) re rs h fun x mem1 v H1 loc1 e1 rs1 rv1 re1 h1 => ?_
  obtain ⟨w, mem', e, q⟩ := post_lift h1
  exact ⟨x, mem1, loc1, rs1, rv1, w, mem', e, q.mono e1⟩
/-- the answer is flat and the store stays: the heap may stay, too -/
theorem okQ.flat {loc : Locs} {mem : Mem} {w : W} (q : okQ K loc H Q w mem) (rs : Rs K mem loc H) (h : isFlat w = true) : Q (flatW w) H := q _ H loc Ext.refl rs (rv_flat h)
end
section
variable {X : Cx} {W' : WX} {pos : Pos} {a b c : Expr} {ma mb mc : EM} {es : List Expr} {as : AM}
theorem se_bin {op : Operator} {f : Op2} (ho : OpR X (binaryOp op) (opP X.K f)) (ha : SE X W' a ma) (hb : SE X W' b mb) : SE X W' (.BinOp a op b pos) (bin f ma mb) := pe_imp (pe_op ho ha hb) fun _ _ _ => den_bin
theorem se_un {op : UnaryOp} {f : Op1} (ho : UnR X (unaryOp op) (unP X.K f)) (ha : SE X W' a ma) : SE X W' (.UnaryOp op a pos) (un f ma) := pe_imp (pe_un ho ha) fun _ _ _ => den_un
theorem se_cmp {op : CmpOp} {f : Op2} (ho : OpR X (compareOp op) (opP X.K f)) (ha : SE X W' a ma) (hb : SE X W' b mb) (hm : behindInMarks op b = false) : SE X W' (.Compare a [op] [b] pos) (bin f ma mb) := pe_imp (pe_cmpR ho ha hb hm) fun _ _ _ => den_bin
theorem se_ix {f : Op2} (ho : IxR X (opP X.K f)) (ha : SE X W' a ma) (hb : SE X W' b mb) (hs : PlainIx b := by intro _ _; rfl) : SE X W' (.Subscript a b pos) (bin f ma mb) := pe_imp (pe_ix ho ha hb hs) fun _ _ _ => den_bin

/-! ### tests -/
/-- a value that is a bool, as a test -/
def tB (m : EM) : BM := fun env => SM.bind (m env) fun w => fun mem => match w with
  | .bl b => .ok b mem
  | _ => .bad
theorem den_tB {K : PySem.W.Frag} {σ : L2.St} {H : Hp} {Q : Bool → Hp → Prop} {m : EM} (h : denB K W' (tB m) σ H Q) : denE K W' m σ H fun x H' => ∃ k, x = .bl k ∧ Q k H' := by
  obtain ⟨env, mem, loc, re, rs, h⟩ := h
  refine denE_then (k := fun env w => fun mem => match w with | .bl b => .ok b mem | _ => .bad) re rs h fun w mem1 v H1 loc1 e1 rs1 rv1 re1 h1 => ?_
  cases w with
  | bl b => cases rv1; exact ⟨b, rfl, h1 H1 loc1 e1 rs1⟩
  | _ => exact h1.elim
theorem sb_cmp {op : CmpOp} {f : Op2} (ho : OpR X (compareOp op) (opP X.K f)) (ha : SE X W' a ma) (hb : SE X W' b mb) (hm : behindInMarks op b = false) : SB X W' (.Compare a [op] [b] pos) (tB (bin f ma mb)) := by
  refine pt_imp (pt_cmpR ho ha hb hm) fun σ H Q h => ?_
  obtain ⟨env, mem, loc, re, rs, h⟩ := h
  have h' := den_tB ⟨env, mem, loc, re, rs, h⟩
  exact den_bin h'
theorem sb_e {m : EM} (ha : SE X W' a m) (he : ∀ whole, isTrue a X.env whole = (do let v ← whole; standAt a.pos; holding [v] (truthy v)) := by intro _; rfl) : SB X W' a (tB m) :=
  pt_imp (pt_val ha he) fun _ _ _ h => den_tB h
def andB (a b : BM) : BM := fun env => SM.bind (a env) fun x => if x = true then b env else SM.pure false
def orB (a b : BM) : BM := fun env => SM.bind (a env) fun x => if x = true then SM.pure true else b env
def notB (a : BM) : BM := fun env => SM.bind (a env) fun x => SM.pure (!x)
variable {ba bb : BM} {rest : List Expr}
theorem sw_and1 (ha : SB X W' a ba) : SW X W' (.BoolOp .And [a] pos) ba := pw_and1 ha
theorem sw_or1 (ha : SB X W' a ba) : SW X W' (.BoolOp .Or [a] pos) ba := pw_or1 ha
theorem sw_and (ha : SB X W' a ba) (hb : SW X W' (.BoolOp .And (b :: rest) pos) bb) : SW X W' (.BoolOp .And (a :: b :: rest) pos) (andB ba bb) := by
  refine pw_imp (pw_and ha hb) fun σ H Q h => ?_
  obtain ⟨env, mem, loc, re, rs, h⟩ := h
  refine denB_then (k := fun env x => if x = true then bb env else SM.pure false) re rs h fun x mem1 H1 loc1 e1 rs1 re1 h1 => ?_
  cases x with
  | true => exact ⟨env, mem1, loc1, re1, rs1, h1.imp (fun _ _ z => z.mono e1) fun _ _ z => z⟩
  | false => exact h1 H1 loc1 e1 rs1
theorem sw_or (ha : SB X W' a ba) (hb : SW X W' (.BoolOp .Or (b :: rest) pos) bb) : SW X W' (.BoolOp .Or (a :: b :: rest) pos) (orB ba bb) := by
  refine pw_imp (pw_or ha hb) fun σ H Q h => ?_
  obtain ⟨env, mem, loc, re, rs, h⟩ := h
  refine denB_then (k := fun env x => if x = true then SM.pure true else bb env) re rs h fun x mem1 H1 loc1 e1 rs1 re1 h1 => ?_
  cases x with
  | false => exact ⟨env, mem1, loc1, re1, rs1, h1.imp (fun _ _ z => z.mono e1) fun _ _ z => z⟩
  | true => exact h1 H1 loc1 e1 rs1
theorem sb_w (h : SW X W' a ba) : SB X W' a ba := PW.pt h
theorem sb_not (ha : SB X W' a ba) : SB X W' (.UnaryOp .Not a pos) (notB ba) := by
  refine pt_imp (pt_not ha) fun σ H Q h => ?_
  obtain ⟨env, mem, loc, re, rs, h⟩ := h
  exact denB_then (k := fun env x => SM.pure (!x)) re rs h fun x mem1 H1 loc1 e1 rs1 re1 h1 => h1 H1 loc1 e1 rs1
/-! .. as values -/
def boolE (f : W → Option Bool) (m : EM) (yes no : EM) : EM := fun env => SM.bind (m env) fun w => match f w with
  | some true => yes env
  | some false => no env
  | none => fun _ => .bad
def isB : W → Option Bool
  | .bl b => some b
  | _ => none
def andV (a b : EM) : EM := boolE isB a b (cE (.bl false))
def orV (a b : EM) : EM := boolE isB a (cE (.bl true)) b
def notV (a : EM) : EM := boolE isB a (cE (.bl false)) (cE (.bl true))
theorem se_one {op} {m : EM} (h : SE X W' a m) : SE X W' (.BoolOp op [a] pos) m := pe_one h
theorem se_and (ha : SE X W' a ma) (hb : SE X W' (.BoolOp .And (b :: rest) pos) mb) : SE X W' (.BoolOp .And (a :: b :: rest) pos) (andV ma mb) := by
  refine pe_imp (pe_and ha hb) fun σ H Q h => ?_
  obtain ⟨env, mem, loc, re, rs, h⟩ := h
  refine denE_then (k := fun env w => match isB w with | some true => mb env | some false => cE (.bl false) env | none => fun _ => .bad) re rs h fun x mem1 v H1 loc1 e1 rs1 rv1 re1 h1 => ?_
  cases x with
  | bl c =>
    cases rv1
    refine ⟨c, rfl, ?_⟩
    cases c with
    | true => exact ⟨env, mem1, loc1, re1, rs1, h1.imp (fun _ _ z => z.mono e1) fun _ _ z => z⟩
    | false => exact h1 _ H1 loc1 e1 rs1 (.bl false)
  | _ => exact h1.elim
theorem se_or (ha : SE X W' a ma) (hb : SE X W' (.BoolOp .Or (b :: rest) pos) mb) : SE X W' (.BoolOp .Or (a :: b :: rest) pos) (orV ma mb) := by
  refine pe_imp (pe_or ha hb) fun σ H Q h => ?_
  obtain ⟨env, mem, loc, re, rs, h⟩ := h
  refine denE_then (k := fun env w => match isB w with | some true => cE (.bl true) env | some false => mb env | none => fun _ => .bad) re rs h fun x mem1 v H1 loc1 e1 rs1 rv1 re1 h1 => ?_
  cases x with
  | bl c =>
    cases rv1
    refine ⟨c, rfl, ?_⟩
    cases c with
    | false => exact ⟨env, mem1, loc1, re1, rs1, h1.imp (fun _ _ z => z.mono e1) fun _ _ z => z⟩
    | true => exact h1 _ H1 loc1 e1 rs1 (.bl true)
  | _ => exact h1.elim
theorem se_not (ha : SE X W' a ma) : SE X W' (.UnaryOp .Not a pos) (notV ma) := by
  refine pe_imp (pe_not ha) fun σ H Q h => ?_
  obtain ⟨env, mem, loc, re, rs, h⟩ := h
  refine denE_then (k := fun env w => match isB w with | some true => cE (.bl false) env | some false => cE (.bl true) env | none => fun _ => .bad) re rs h fun x mem1 v H1 loc1 e1 rs1 rv1 re1 h1 => ?_
  cases x with
  | bl c =>
    cases rv1
    refine ⟨c, rfl, ?_⟩
    cases c with
    | true => exact h1 _ H1 loc1 e1 rs1 (.bl _)
    | false => exact h1 _ H1 loc1 e1 rs1 (.bl _)
  | _ => exact h1.elim
def ifE (t : BM) (a b : EM) : EM := fun env => SM.bind (t env) fun x => if x = true then a env else b env
theorem se_if (ht : SB X W' c ba) (ha : SE X W' a ma) (hb : SE X W' b mb) : SE X W' (.IfExp c a b pos) (ifE ba ma mb) := by
  refine pe_imp (pe_ifExp ht ha hb) fun σ H Q h => ?_
  obtain ⟨env, mem, loc, re, rs, h⟩ := h
  refine denB_then (k := fun env x => if x = true then ma env else mb env) re rs h fun x mem1 H1 loc1 e1 rs1 re1 h1 => ?_
  cases x with
  | true => exact ⟨env, mem1, loc1, re1, rs1, h1.imp (fun _ _ z => z.mono e1) fun _ _ z => z⟩
  | false => exact ⟨env, mem1, loc1, re1, rs1, h1.imp (fun _ _ z => z.mono e1) fun _ _ z => z⟩

/-! ### arguments, displays, calls of built-ins -/
def nilA : AM := fun _ => SM.pure []
def consA (a : EM) (r : AM) : AM := fun env => SM.bind (a env) fun x => SM.bind (r env) fun xs => SM.pure (x :: xs)
theorem sa_nil : SA X W' [] nilA := pa_imp pa_nil fun σ H Q ⟨env, mem, loc, re, rs, h⟩ => h [] H loc Ext.refl rs .nil
theorem sa_cons (ha : SE X W' a ma) (hr : SA X W' es as) (hs : starEach (a :: es) X.env = (false, eval a X.env) :: starEach es X.env := by rfl) : SA X W' (a :: es) (consA ma as) := by
  refine pa_imp (pa_cons ha hr hs) fun σ H Q h => ?_
  obtain ⟨env, mem, loc, re, rs, h⟩ := h
  refine denE_then (k := fun env x => SM.bind (as env) fun xs => SM.pure (x :: xs)) re rs h fun x mem1 v H1 loc1 e1 rs1 rv1 re1 h1 => ?_
  refine denA_then (k := fun env xs => SM.pure (x :: xs)) re1 rs1 h1 fun xs mem2 vs H2 loc2 e2 rs2 rv2 re2 h2 => ?_
  exact h2 _ H2 loc2 (e1.trans e2) rs2 (.cons (rv1.mono e2) rv2)
def tupE (t : AM) : EM := fun env => SM.bind (t env) fun xs => fun m => if xs.length ≤ sizeLine then .ok (W.tup xs) m else .bad
def lstE (t : AM) : EM := fun env => SM.bind (t env) fun xs => fun m => if xs.length ≤ sizeLine then .ok (W.loc m.length) (m ++ [Cell.lst xs]) else .bad
theorem se_tup {x1} (h : SA X W' es as) : SE X W' (.Tuple es x1 pos) (tupE as) := by
  refine pe_imp (pe_tup h) fun σ H Q h => ?_
  obtain ⟨env, mem, loc, re, rs, h⟩ := h
  refine denA_then (k := fun env xs => fun m => if xs.length ≤ sizeLine then .ok (W.tup xs) m else .bad) re rs h fun xs mem1 vs H1 loc1 e1 rs1 rv1 re1 h1 => ?_
  by_cases hz : xs.length ≤ sizeLine
  · rw [if_pos hz] at h1
    refine ⟨by rw [← rv1.length]; exact hz, fun p hp => ?_⟩
    exact h1 _ _ loc1 (e1.trans (Ext.new hp)) (rs1.grow hp) (.tup (SqT.of upd_same) (rv1.mono (Ext.new hp)))
  · rw [if_neg hz] at h1
    exact h1.elim
theorem rs_newlist {K : PySem.W.Frag} {mem : Mem} {loc : Locs} {H : Hp} {p : Addr} {ws : List W} {vs : List V} (rs : Rs K mem loc H) (rv : Rvs K loc H ws vs) (hp : H p = none) :
    Rs K (mem ++ [.lst ws]) (loc ++ [p]) (upd H p (.lst vs)) ∧ Rv K (loc ++ [p]) (upd H p (.lst vs)) (.loc mem.length) (.ref p) :=
  ⟨rs.alloc hp ⟨vs, upd_same, rv.mono (Ext.alloc hp)⟩, .loc (by rw [← rs.len, List.getElem?_append_right (Nat.le_refl _), Nat.sub_self]; rfl)⟩
theorem se_lst (h : SA X W' es as) : SE X W' (.List es pos) (lstE as) := by
  refine pe_imp (pe_lst h) fun σ H Q h => ?_
  obtain ⟨env, mem, loc, re, rs, h⟩ := h
  refine denA_then (k := fun env xs => fun m => if xs.length ≤ sizeLine then .ok (W.loc m.length) (m ++ [Cell.lst xs]) else .bad) re rs h fun xs mem1 vs H1 loc1 e1 rs1 rv1 re1 h1 => ?_
  by_cases hz : xs.length ≤ sizeLine
  · rw [if_pos hz] at h1
    refine ⟨by rw [← rv1.length]; exact hz, fun p hp => ?_⟩
    obtain ⟨r1, r2⟩ := rs_newlist rs1 rv1 hp
    exact h1 _ _ (loc1 ++ [p]) (e1.trans (Ext.alloc hp)) r1 r2
  · rw [if_neg hz] at h1
    exact h1.elim
def callN (f : OpN) (as : AM) : EM := fun env => SM.bind (as env) fun xs => fun m => lift (f xs m)
theorem den_callN {K : PySem.W.Frag} {σ : L2.St} {H : Hp} {Q : VK} {f : OpN} {as : AM} (h : denE K W' (callN f as) σ H Q) : denA K W' as σ H fun xs H1 => caP K f xs H1 Q := by
  obtain ⟨env, mem, loc, re, rs, h⟩ := h
  refine denA_then (k := fun env xs => fun m => lift (f xs m)) re rs h fun xs mem1 vs H1 loc1 e1 rs1 rv1 re1 h1 => ?_
  obtain ⟨w, mem', e, q⟩ := post_lift h1
  exact ⟨xs, mem1, loc1, rs1, rv1, w, mem', e, q.mono e1⟩
variable {x : Str} {id T : String} {p : Pos}
theorem se_callB {f : OpN} (hc : CallR X (.builtin id) (caP X.K f)) (hg : Gl X x) (hm : X.mg x = none) (hv : bootBuiltins x = some (.builtin id)) (ha : SA X W' (a :: es) as) (hn : x ≠ "__name__" := by decide) (hdb : (x == ("__debug__" : Str)) = false := by decide)
    (he : starEach (a :: es) X.env = (false, eval a X.env) :: starEach es X.env := by rfl) (hpl : (backTo pos (starEach es X.env)).any (·.1) = false := by rfl) : SE X W' (.Call (.Name x p) (a :: es) [] pos) (callN f as) :=
  pe_imp (pe_callB hc hg hm hv ha hn hdb he hpl) fun _ _ _ h => den_callN h
theorem se_callTy {f : OpN} (hc : CallR X (.type T) (caP X.K f)) (hg : Gl X x) (hm : X.mg x = none) (hv : bootBuiltins x = some (.type T)) (ha : SA X W' (a :: es) as) (hn : x ≠ "__name__" := by decide) (hdb : (x == ("__debug__" : Str)) = false := by decide)
    (he : starEach (a :: es) X.env = (false, eval a X.env) :: starEach es X.env := by rfl) (hpl : (backTo pos (starEach es X.env)).any (·.1) = false := by rfl) : SE X W' (.Call (.Name x p) (a :: es) [] pos) (callN f as) :=
  pe_imp (pe_callTy hc hg hm hv ha hn hdb he hpl) fun _ _ _ h => den_callN h
end
end Sh
set_option linter.all false
set_option maxRecDepth 100000
set_option
        maxHeartbeats 4000000
/-! Sh2: statements, loops, comprehensions, defs and their calls. -/
namespace Sh
open PySem PySem.Spec
        PyProof.Rows L2

inductive SRes where
  | nx (e : VEnv) (m : Mem) | rt (w : W) (m : Mem) | bk (e : VEnv) (m : Mem) | ct (e : VEnv) (m : Mem) | exc (x : Exc) (e : VEnv) (m : Mem) | bad
abbrev SS := VEnv → Mem → SRes
structure SQ where
  nx : VEnv → Mem → Prop
  rt : W → Mem → Prop
  bk : VEnv → Mem → Prop
  ct : VEnv → Mem → Prop
  ex : Exc → VEnv → Mem → Prop
def SRes.Post (r : SRes) (q : SQ) : Prop :=
  match r with
  | .nx e m => q.nx e m
  | .rt w m => q.rt w m
  | .bk e m => q.bk e m
  | .ct e m => q.ct e m
  | .exc x e m => q.ex x e m
  | .bad => False
theorem SRes.Post.imp {r : SRes} {q q' : SQ} (h : r.Post q) (h1 : ∀ e m, q.nx e m → q'.nx e m) (h2 : ∀ e m, q.rt e m → q'.rt e m) (h3 : ∀ e m, q.bk e m → q'.bk e m) (h4 : ∀ e m, q.ct e m → q'.ct e m) (h5 : ∀ x e m, q.ex x e m → q'.ex x e m) : r.Post q' := by
  cases r with
  | nx e m => exact h1 _ _ h
  | rt e m => exact h2 _ _ h
  | bk e m => exact h3 _ _ h
  | ct e m => exact h4 _ _ h
  | exc x e m => exact h5 _ _ _ h
  | bad => exact h

section
variable (K : PySem.W.Frag) (W' : WX)
def stQ (loc : Locs) (H : Hp) (N : L2.St → Hp → Prop) (env' : VEnv) (mem' : Mem) : Prop := ∀ σ' H' loc', Ext loc H loc' H' → Rs K mem' loc' H' → REnv K loc' H' env' σ' → N σ' H'
def exS (loc : Locs) (H : Hp) (x : Exc) (env' : VEnv) (mem' : Mem) : Prop := ∀ cls d σ' H' loc', Ext loc H loc' H' → Rs K mem' loc' H' → Rx K loc' H' x cls d → REnv K loc' H' env' σ' → W' cls d σ' H'
def stD (loc : Locs) (H : Hp) (D : Ends) : SQ := ⟨stQ K loc H D.nx, okQ K loc H D.rt, stQ K loc H D.bk, stQ K loc H D.ct, exS K W' loc H⟩
def denS (s : SS) : TS := fun D σ H => ∃ env mem loc, REnv K loc H env σ ∧ Rs K mem loc H ∧ (s env mem).Post (stD K W' loc H D)
end
section
variable {K : PySem.W.Frag} {W' : WX} {loc loc' : Locs} {H H' : Hp} {σ : L2.St} {D D' : Ends}
theorem stQ.mono {N : L2.St → Hp → Prop} {env : VEnv} {mem : Mem} (e : Ext loc H loc' H') (h : stQ K loc H N env mem) : stQ K loc' H' N env mem := fun σ2 H2 l2 e2 => h σ2 H2 l2 (e.trans e2)
theorem exS.mono {x : Exc} {env : VEnv} {mem : Mem} (e : Ext loc H loc' H') (h : exS K W' loc H x env mem) : exS K W' loc' H' x env mem := fun c d σ2 H2 l2 e2 => h c d σ2 H2 l2 (e.trans e2)
theorem stD.mono {r : SRes} (e : Ext loc H loc' H') (h : r.Post (stD K W' loc H D)) : r.Post (stD K W' loc' H' D) :=
  h.imp (fun _ _ z => stQ.mono e z) (fun _ _ z => okQ.mono e z) (fun _ _ z => stQ.mono e z) (fun _ _ z => stQ.mono e z) fun _ _ _ z => exS.mono e z
theorem exQ_of {x : Exc} {env : VEnv} {mem : Mem} (re : REnv K loc H env σ) (h : exS K W' loc H x env mem) : exQ K W' σ loc H x mem := fun c d H2 l2 e2 r rx => h c d σ H2 l2 e2 r rx (re.mono e2)
end
def SSt (X : Cx) (W' : WX) (st : Stmt) (s : SS) : Prop := PS X st (denS X.K W' s)
def SBl (X : Cx) (W' : WX) (st : List Stmt) (s : SS) : Prop := PSs X st (denS X.K W' s)

/-- an expression, then what is done with its value -/
def ofE {α : Type} (m : VEnv → SM α) (k : α → SS) : SS := fun env mem => match m env mem with
  | .ok w m' => k w env m'
  | .exc x m' => .exc x env m'
  | .bad => .bad
def seqS (s t : SS) : SS := fun env mem => match s env mem with
  | .nx e m => t e m
  | .rt w m => .rt w m
  | .bk e m => .bk e m
  | .ct e m => .ct e m
  | .exc x e m => .exc x e m
  | .bad => .bad
def nextS : SS := fun env mem => .nx env mem
def brkS : SS := fun env mem => .bk env mem
def ctS : SS := fun env mem => .ct env mem
def retS (m : EM) : SS := ofE m fun w _ mem => .rt w mem
def retNS : SS := fun _ mem => .rt .non mem
def dropS (m : EM) : SS := ofE m fun _ env mem => .nx env mem
def setS (i : Nat) (m : EM) : SS := ofE m fun w env mem => .nx (env.set i (some w)) mem
def ifS (b : BM) (s t : SS) : SS := ofE b fun c => if c = true then s else t
section
variable {K : PySem.W.Frag} {W' : WX} {σ : L2.St} {H : Hp} {D : Ends}
theorem ofE_post {α : Type} {m : VEnv → SM α} {k : α → SS} {env : VEnv} {mem : Mem} {q : SQ} (h : (ofE m k env mem).Post q) : (m env mem).Post (fun w m' => (k w env m').Post q) (fun x m' => q.ex x env m') := by
  unfold ofE at h
  cases e : m env mem with
  | ok a m' => rw [e] at h; exact h
  | exc x m' => rw [e] at h; exact h
  | bad => rw [e] at h; exact h
theorem denE_of {m : EM} {k : W → SS} {env : VEnv} {mem : Mem} {loc : Locs} {Q : VK} (re : REnv K loc H env σ) (rs : Rs K mem loc H) (h : (ofE m k env mem).Post (stD K W' loc H D))
    (hk : ∀ w mem1 v H1 loc1, Ext loc H loc1 H1 → Rs K mem1 loc1 H1 → Rv K loc1 H1 w v → REnv K loc1 H1 env σ → (k w env mem1).Post (stD K W' loc1 H1 D) → Q v H1) : denE K W' m σ H Q :=
  ⟨env, mem, loc, re, rs, (ofE_post h).imp (fun w mem1 hp v H1 loc1 e r q => hk w mem1 v H1 loc1 e r q (re.mono e) (stD.mono e hp)) fun _ _ z => exQ_of re z⟩
theorem denB_of {m : BM} {k : Bool → SS} {env : VEnv} {mem : Mem} {loc : Locs} {Q : Bool → Hp → Prop} (re : REnv K loc H env σ) (rs : Rs K mem loc H) (h : (ofE m k env mem).Post (stD K W' loc H D))
    (hk : ∀ w mem1 H1 loc1, Ext loc H loc1 H1 → Rs K mem1 loc1 H1 → REnv K loc1 H1 env σ → (k w env mem1).Post (stD K W' loc1 H1 D) → Q w H1) : denB K W' m σ H Q :=
  ⟨env, mem, loc, re, rs, (ofE_post h).imp (fun w mem1 hp H1 loc1 e r => hk w mem1 H1 loc1 e r (re.mono e) (stD.mono e hp)) fun _ _ z => exQ_of re z⟩
theorem denA_of {m : AM} {k : List W → SS} {env : VEnv} {mem : Mem} {loc : Locs} {Q : List V → Hp → Prop} (re : REnv K loc H env σ) (rs : Rs K mem loc H) (h : (ofE m k env mem).Post (stD K W' loc H D))
    (hk : ∀ w mem1 v H1 loc1, Ext loc H loc1 H1 → Rs K mem1 loc1 H1 → Rvs K loc1 H1 w v → REnv K loc1 H1 env σ → (k w env mem1).Post (stD K W' loc1 H1 D) → Q v H1) : denA K W' m σ H Q :=
  ⟨env, mem, loc, re, rs, (ofE_post h).imp (fun w mem1 hp v H1 loc1 e r q => hk w mem1 v H1 loc1 e r q (re.mono e) (stD.mono e hp)) fun _ _ z => exQ_of re z⟩
theorem den_seq {s t : SS} (h : denS K W' (seqS s t) D σ H) : tSeq (denS K W' s) (denS K W' t) D σ H := by
  obtain ⟨env, mem, loc, re, rs, h⟩ := h
  refine ⟨env, mem, loc, re, rs, ?_⟩
  unfold seqS at h
  cases e : s env mem with
  | nx e1 m1 =>
    rw [e] at h
    exact fun σ' H' loc' x r q => ⟨e1, m1, loc', q, r, stD.mono x h⟩
  | rt w m => rw [e] at h; exact h
  | bk w m => rw [e] at h; exact h
  | ct w m => rw [e] at h; exact h
  | exc x w m => rw [e] at h; exact h
  | bad => rw [e] at h; exact h
end
section
variable {X : Cx} {W' : WX} {st : Stmt} {rest : List Stmt} {s t : SS} {e : Expr} {m : EM} {b : BM} {pos : Pos}
theorem sl_nil : SBl X W' [] nextS := pss_imp pss_nil fun D σ H ⟨env, mem, loc, re, rs, h⟩ => h σ H loc Ext.refl rs re
theorem sl_cons (h1 : SSt X W' st s) (h2 : SBl X W' rest t) : SBl X W' (st :: rest) (seqS s t) := pss_imp (pss_cons h1 h2) fun _ _ _ => den_seq
theorem sl_one (h1 : SSt X W' st s) : SBl X W' [st] s := pss_one h1
theorem ss_pass : SSt X W' (.Pass pos) nextS := ps_imp ps_pass fun D σ H ⟨env, mem, loc, re, rs, h⟩ => h σ H loc Ext.refl rs re
theorem ss_break : SSt X W' (.Break pos) brkS := ps_imp ps_break fun D σ H ⟨env, mem, loc, re, rs, h⟩ => h σ H loc Ext.refl rs re
theorem ss_continue : SSt X W' (.Continue pos) ctS := ps_imp ps_continue fun D σ H ⟨env, mem, loc, re, rs, h⟩ => h σ H loc Ext.refl rs re
theorem ss_expr (he : SE X W' e m) (hs : swapsWith e none pos.line X.env = pure false := by rfl) : SSt X W' (.Expr e pos) (dropS m) := by
  refine ps_imp (ps_expr he hs) fun D σ H ⟨env, mem, loc, re, rs, h⟩ => ?_
  exact denE_of re rs h fun w mem1 v H1 loc1 e1 rs1 rv1 re1 h1 => h1 σ H1 loc1 Ext.refl rs1 re1
theorem ss_ret (he : SE X W' e m) : SSt X W' (.Return (some e) pos) (retS m) := by
  refine ps_imp (ps_ret he) fun D σ H ⟨env, mem, loc, re, rs, h⟩ => ?_
  exact denE_of re rs h fun w mem1 v H1 loc1 e1 rs1 rv1 re1 h1 => h1 v H1 loc1 Ext.refl rs1 rv1
theorem ss_retN : SSt X W' (.Return none pos) retNS := ps_imp ps_retN fun D σ H ⟨env, mem, loc, re, rs, h⟩ => h .non H loc Ext.refl rs .non
theorem ss_if {c : Expr} {a d : List Stmt} (hc : SB X W' c b) (ha : SBl X W' a s) (hb : SBl X W' d t) : SSt X W' (.If c a d pos) (ifS b s t) := by
  refine ps_imp (ps_if hc ha hb) fun D σ H ⟨env, mem, loc, re, rs, h⟩ => ?_
  refine denB_of re rs h fun w mem1 H1 loc1 e1 rs1 re1 h1 => ?_
  cases w with
  | true => exact ⟨env, mem1, loc1, re1, rs1, h1⟩
  | false => exact ⟨env, mem1, loc1, re1, rs1, h1⟩
theorem ss_set {i : Nat} {x : Str} {pos' : Pos} (hN : X.N.Nodup) (hi : X.N[i]? = some x) (hx : Loc X.env.scope x) (he : SE X W' e m) (hs : swapsWith e (some (.Name x pos')) pos.line X.env = pure false := by rfl) (hf : X.fn x = true ∨ X.env.scope.names.lookup x = some .local := by first | exact .inl rfl | exact .inr rfl | assumption) :
    SSt X W' (.Assign [.Name x pos'] e pos) (setS i m) := by
  refine ps_imp (ps_set hN hi hx he hs hf) fun D σ H ⟨env, mem, loc, re, rs, h⟩ => ?_
  exact denE_of re rs h fun w mem1 v H1 loc1 e1 rs1 rv1 re1 h1 => h1 _ H1 loc1 Ext.refl rs1 (re1.set rv1 i)
end

/-! ### targets -/
abbrev GM := W → VEnv → SM VEnv
abbrev GMs := List W → VEnv → SM VEnv
def noX : Exc → Mem → Prop := fun _ _ => False
def denG (K : PySem.W.Frag) (g : GM) : TG := fun v σ H Q => ∃ w env mem loc, Rv K loc H w v ∧ REnv K loc H env σ ∧ Rs K mem loc H ∧ (g w env mem).Post (fun env' mem' => stQ K loc H Q env' mem') noX
def denGs (K : PySem.W.Frag) (g : GMs) : TGs := fun vs σ H Q => ∃ ws env mem loc, Rvs K loc H ws vs ∧ REnv K loc H env σ ∧ Rs K mem loc H ∧ (g ws env mem).Post (fun env' mem' => stQ K loc H Q env' mem') noX
def SG (X : Cx) (tg : Expr) (g : GM) : Prop := PG X tg (denG X.K g)
def SGs (X : Cx) (tg : List Expr) (g : GMs) : Prop := PGs X tg (denGs X.K g)
def nameG (i : Nat) : GM := fun w env mem => .ok (env.set i (some w)) mem
def nilG : GMs := fun ws env mem => match ws with
  | [] => .ok env mem
  | _ => .bad
def consG (g : GM) (r : GMs) : GMs := fun ws env => match ws with
  | w :: t => SM.bind (g w env) fun env' => r t env'
  | [] => fun _ => .bad
def tupG (n : Nat) (g : GMs) : GM := fun w env => match w with
  | .tup ws => if ws.length = n then g ws env else fun _ => .bad
  | _ => fun _ => .bad
section
variable {X : Cx} {W' : WX} {pos : Pos}
theorem sg_name {i : Nat} {x : Str} (hN : X.N.Nodup) (hi : X.N[i]? = some x) (hx : Loc X.env.scope x) (hf : X.fn x = true ∨ X.env.scope.names.lookup x = some .local := by first | exact .inl rfl | exact .inr rfl | assumption) : SG X (.Name x pos) (nameG i) :=
  ⟨fun pins s σ H v u Q I r h => (pg_name hN hi hx hf).run pins s σ H v u Q I r (by
    obtain ⟨w, env, mem, loc, rv, re, rs, h⟩ := h
    exact h _ H loc Ext.refl rs (re.set rv i))⟩
theorem sgs_nil : SGs X [] nilG := ⟨fun pins s σ H vs us Q I r h => pgs_nil.run pins s σ H vs us Q I r (by
  obtain ⟨ws, env, mem, loc, rv, re, rs, h⟩ := h
  cases rv with
  | nil => exact ⟨rfl, h σ H loc Ext.refl rs re⟩
  | cons _ _ => exact h.elim)⟩
theorem sgs_cons {e : Expr} {es : List Expr} {g : GM} {r : GMs} (h1 : SG X e g) (h2 : SGs X es r)
    (hs : (assignEach (e :: es) X.env).map (·.2) = assign e X.env :: (assignEach es X.env).map (·.2) := by rfl) : SGs X (e :: es) (consG g r) :=
  ⟨fun pins s σ H vs us Q I rr h => (pgs_cons h1 h2 hs).run pins s σ H vs us Q I rr (by
    obtain ⟨ws, env, mem, loc, rv, re, rs, h⟩ := h
    cases rv with
    | nil => exact h.elim
    | @cons w v ws vs r1 r2 =>
      refine ⟨v, vs, rfl, w, env, mem, loc, r1, re, rs, (post_bind (f := fun env' => r ws env') h).imp (fun env1 mem1 z σ1 H1 loc1 e1 rs1 re1 => ?_) fun _ _ z => z⟩
      exact ⟨ws, env1, mem1, loc1, r2.mono e1, re1, rs1, z.imp (fun _ _ z => z.mono e1) fun _ _ z => z⟩)⟩
theorem sg_tup {es : List Expr} {k : Nat} {g : GMs} {n : Nat} (hc : X.calm = true) (h : SGs X es g)
    (hn : (assignEach es X.env).length = n := by rfl) (hst : (assignEach es X.env).findIdx? (·.1) = none := by rfl) : SG X (.Tuple es k pos) (tupG n g) :=
  ⟨fun pins s σ H v u Q I rr hq => (pg_tup hc h hn hst).run pins s σ H v u Q I rr (by
    obtain ⟨w, env, mem, loc, rv, re, rs, hq⟩ := hq
    cases rv with
    | @tup ws a vs h1 h2 =>
      by_cases hl : ws.length = n
      · have hq' : (g ws env mem).Post (fun env' mem' => stQ X.K loc H Q env' mem') noX := by
          unfold tupG at hq
          simpa only [hl, if_true] using hq
        exact ⟨a, vs, rfl, h1, by rw [← h2.length]; exact hl, ws, env, mem, loc, h2, re, rs, hq'⟩
      · exact False.elim (by
          unfold tupG at hq
          dsimp only at hq
          rw [if_neg hl] at hq
          exact hq)
    | _ => exact False.elim hq)⟩
def asgS (m : EM) (g : GM) : SS := ofE m fun w env mem => match g w env mem with
  | .ok env' mem' => .nx env' mem'
  | _ => .bad
theorem ss_asg {tg e : Expr} {m : EM} {g : GM} (he : SE X W' e m) (hg : SG X tg g) (hs : swapsWithSole [tg] e pos.line X.env = pure false := by rfl) (hw : swappedStores [tg] e X.env = pure none := by rfl)
    (h1 : (assignEach [tg] X.env).map (·.2) = [assign tg X.env] := by rfl) : SSt X W' (.Assign [tg] e pos) (asgS m g) := by
  refine ps_imp (ps_asg he hg hs hw h1) fun D σ H ⟨env, mem, loc, re, rs, h⟩ => ?_
  refine denE_of (k := fun w env mem => match g w env mem with | .ok env' mem' => .nx env' mem' | _ => .bad) re rs h fun w mem1 v H1 loc1 e1 rs1 rv1 re1 h1 => ?_
  refine ⟨w, env, mem1, loc1, rv1, re1, rs1, ?_⟩
  cases eg : g w env mem1 with
  | ok env' mem' => rw [eg] at h1; exact h1
  | exc x m' => rw [eg] at h1; exact h1
  | bad => rw [eg] at h1; exact h1
end

/-! ### while -/
def whileS (c : BM) (body : SS) : Nat → SS
  | 0 => fun _ _ => .bad
  | n + 1 => ofE c fun b => if b = true then (fun env mem => match body env mem with
      | .nx e m => whileS c body n e m
      | .ct e m => whileS c body n e m
      | .bk e m => .nx e m
      | .rt w m => .rt w m
      | .exc x e m => .exc x e m
      | .bad => .bad) else nextS
section
variable {X : Cx} {W' : WX} {pos : Pos}
theorem ss_while (n : Nat) {c : Expr} {body : List Stmt} {b : BM} {s : SS} (hp : PassesOwn (model X.prog X.w) X.A X.env X.xe) (hc : SB X W' c b) (hb : SBl X W' body s) : SSt X W' (.While c body [] pos) (whileS b s n) := by
  refine ps_imp (ps_while hp hc hb) fun D σ H h => ?_
  refine ⟨fun k σ H => denS X.K W' (whileS b s k) D σ H, ⟨n, h⟩, fun k σ H h => ?_⟩
  obtain ⟨env, mem, loc, re, rs, h⟩ := h
  cases k with
  | zero => exact h.elim
  | succ k =>
    refine denB_of re rs h fun w mem1 H1 loc1 e1 rs1 re1 h1 => ?_
    cases w with
    | false => exact h1 σ H1 loc1 Ext.refl rs1 re1
    | true =>
      refine ⟨fun σ' H' => denS X.K W' (whileS b s k) D σ' H', fun σ' H' z => ⟨k, Nat.lt_succ_self k, z⟩, ?_⟩
      refine ⟨env, mem1, loc1, re1, rs1, ?_⟩
      simp only [if_true] at h1
      cases e : s env mem1 with
      | nx e2 m2 => rw [e] at h1; exact fun σ' H' loc' x r q => ⟨e2, m2, loc', q, r, stD.mono x h1⟩
      | ct e2 m2 => rw [e] at h1; exact fun σ' H' loc' x r q => ⟨e2, m2, loc', q, r, stD.mono x h1⟩
      | bk e2 m2 => rw [e] at h1; exact h1
      | rt w m => rw [e] at h1; exact h1
      | exc x w m => rw [e] at h1; exact h1
      | bad => rw [e] at h1; exact h1
end

/-! ### for: the i-th item by the store as it stands -/
abbrev Nxt := Nat → Mem → Option (Option W)
def loopS (nx : Nxt) (g : GM) (body : SS) : Nat → Nat → SS := fun k i env mem => match nx i mem with
  | none => .bad
  | some none => .nx env mem
  | some (some x) => match k with
    | 0 => .bad
    | k + 1 => match g x env mem with
      | .ok e1 m1 => match body e1 m1 with
        | .nx e m => loopS nx g body k (i + 1) e m
        | .ct e m => loopS nx g body k (i + 1) e m
        | .bk e m => .nx e m
        | .rt w m => .rt w m
        | .exc x e m => .exc x e m
        | .bad => .bad
      | _ => .bad
/-- an iterator J does what nx says, where P stands -/
structure Walks (K : PySem.W.Frag) (J : It) (nx : Nxt) (P : Locs → Hp → Prop) : Prop where
  keep : ∀ loc H loc' H', Ext loc H loc' H' → P loc H → P loc' H'
  stop : ∀ i mem loc H, Rs K mem loc H → P loc H → nx i mem = some none → J.stop i H
  go : ∀ i mem loc H x, Rs K mem loc H → P loc H → nx i mem = some (some x) → J.go i H ∧ ∀ v H', J.yld i H v H' → Ext loc H loc H' ∧ Rs K mem loc H' ∧ Rv K loc H' x v
section
variable {K : PySem.W.Frag} {W' : WX} {σ : L2.St} {H : Hp} {D : Ends}
theorem for_walk {J : It} {nx : Nxt} {P : Locs → Hp → Prop} {g : GM} {body : SS} (w : Walks K J nx P) {k : Nat} {env : VEnv} {mem : Mem} {loc : Locs} (re : REnv K loc H env σ) (rs : Rs K mem loc H) (p : P loc H)
    (h : (loopS nx g body k 0 env mem).Post (stD K W' loc H D)) :
    ∃ W : Nat → Nat → L2.St → Hp → Prop, (∃
            m, W 0 m σ H) ∧ ∀ i m σ H, W i m σ H →
      (J.stop i H ∧ D.nx σ H) ∨ (J.go i H ∧ ∃ N : L2.St → Hp → Prop, (∀ σ' H', N σ' H' → ∃ m', m' < m ∧ W (i + 1) m' σ' H') ∧ ∀ x H', J.yld i H x H' → denG K g x σ H' fun σ2 H2 => denS K W' body { D with nx := N, ct := N, bk := D.nx } σ2 H2) := by
  refine ⟨fun i m σ H => ∃ env mem loc, REnv K loc H env σ ∧ Rs K mem loc H ∧ P loc H ∧ (loopS nx g body m i env mem).Post (stD K W' loc H D), ⟨k, env, mem, loc, re, rs, p, h⟩, ?_⟩
  rintro i m σ H ⟨env, mem, loc, re, rs, p, h⟩
  unfold loopS at h
  cases en : nx i mem with
  | none => rw [en] at h; exact h.elim
  | some o =>
    cases o with
    | none =>
      rw [en] at h
      exact .inl ⟨w.stop i mem loc H rs p en, h σ H loc Ext.refl rs re⟩
    | some x =>
      rw [en] at h
      obtain ⟨go, yld⟩ := w.go i mem loc H x rs p en
      cases m with
      | zero => exact h.elim
      | succ m =>
        refine .inr ⟨go, fun σ' H' => ∃ env mem loc, REnv K loc H' env σ' ∧ Rs K mem loc H' ∧ P loc H' ∧ (loopS nx g body m (i + 1) env mem).Post (stD K W' loc H' D), fun σ' H' z => ⟨m, Nat.lt_succ_self m, z⟩, fun v H1 y => ?_⟩
        obtain ⟨e1, rs1, rv1⟩ := yld v H1 y
        refine ⟨x, env, mem, loc, rv1, re.mono e1, rs1, ?_⟩
        have p1 := w.keep _ _ _ _ e1 p
        dsimp only at h
        cases eg : g x env mem with
        | ok env2 mem2 =>
          rw [eg] at h
          dsimp only at h
          intro σ2 H2 loc2 e2 rs2 re2
          have p2 := w.keep _ _ _ _ e2 p1
          refine ⟨env2, mem2, loc2, re2, rs2, ?_⟩
          have e12 := e1.trans e2
          cases eb : body env2 mem2 with
          | nx e3 m3 => rw [eb] at h; exact fun σ' H' loc' z r q => ⟨e3, m3, loc', q, r, w.keep _ _ _ _ z p2, stD.mono (e12.trans z) h⟩
          | ct e3 m3 => rw [eb] at h; exact fun σ' H' loc' z r q => ⟨e3, m3, loc', q, r, w.keep _ _ _ _ z p2, stD.mono (e12.trans z) h⟩
          | bk e3 m3 => rw [eb] at h; exact stQ.mono e12 h
          | rt w m => rw [eb] at h; exact okQ.mono e12 h
          | exc x w m => rw [eb] at h; exact exS.mono e12 h
          | bad => rw [eb] at h; exact h
        | exc z m' => rw [eg] at h; exact h.elim
        | bad => rw [eg] at h; exact h.elim
end
end Sh
set_option linter.all false
set_option maxRecDepth 100000
set_option
        maxHeartbeats 4000000
/-! Sh3: what a loop walks, comprehensions, defs and their calls. -/
namespace Sh
open PySem PySem.Spec
        PyProof.Rows L2

structure Walk where
  nx : Nxt
  k : Nat
abbrev IM := VEnv → SM Walk
def denI (K : PySem.W.Frag) (W' : WX) (m : IM) : TI := fun σ H R => ∃ env mem loc, REnv K loc H env σ ∧ Rs K mem loc H ∧
  (m env mem).Post (fun wk mem' => ∀ J H' loc' P, Ext loc H loc' H' → Rs K mem' loc' H' → Walks K J wk.nx P → P loc' H' → R J H') (exQ K W' σ loc H)
def SI (X : Cx) (W' : WX) (tg iter : Expr) (m : IM) : Prop := PI X tg iter (denI X.K W' m)
theorem pi_imp {X : Cx} {tg iter : Expr} {t t' : TI} (h : PI X tg iter t) (i : ∀ σ H Q, t' σ H Q → t σ H Q) : PI X tg iter t' := ⟨fun pins s σ H R I q => h.run pins s σ H R I (i σ H R q)⟩
theorem PI.or {X : Cx} {tg iter : Expr} {t t' : TI} (h : PI X tg iter t) (h' : PI X tg iter t') : PI X tg iter (fun σ H R => t σ H R ∨ t' σ H R) :=
  ⟨fun pins s σ H R I q => q.elim (h.run pins s σ H R I) (h'.run pins s σ H R I)⟩
def forS (it : IM) (g : GM) (body : SS) : SS := ofE it fun wk => loopS wk.nx g body wk.k 0

def tupN (xs : List W) : Nxt := fun i _ => some xs[i]?
def listAt (mem : Mem) (n : Nat) : Option (List W) := match mem[n]? with
  | some (.lst xs) => some xs
  | _ => none
def locN (n : Nat) : Nxt := fun i mem => (listAt mem n).map fun xs => xs[i]?
def rngN (lo : Int) (n : Nat) : Nxt := fun i _ => some (if i < n then some (.int (lo + i)) else none)
/-- what a value is walked as -/
def walkOf (w : W) (mem : Mem) : Option Walk := match w with
  | .tup xs => some ⟨tupN xs, xs.length⟩
  | .rol xs => some ⟨tupN xs, xs.length⟩
  | .loc n => (listAt mem n).map fun xs => ⟨locN n, xs.length⟩
  | _ => none
def seqI (m : EM) : IM := fun env => SM.bind (m env) fun w mem => match walkOf w mem with
  | some wk => .ok wk mem
  | none => .bad
def rng1I (as : AM) : IM := fun env => SM.bind (as env) fun ws mem => match ws with
  | [.int j] => if -(2 ^ 62) ≤ j ∧ j < 2 ^ 62 then .ok ⟨rngN 0 j.toNat, j.toNat⟩ mem else .bad
  | _ => .bad
def rng2I (as : AM) : IM := fun env => SM.bind (as env) fun ws mem => match ws with
  | [.int i, .int j] => if -(2 ^ 62) ≤ i ∧ i < 2 ^ 62 ∧ -(2 ^ 62) ≤ j ∧ j < 2 ^ 62 then .ok ⟨rngN i (j - i).toNat, (j - i).toNat⟩ mem else .bad
  | _ => .bad

section
variable {K : PySem.W.Frag}
theorem walks_tup {a : Addr} {xs : List W} : Walks K (Itt K a) (tupN xs) (fun loc H => ∃ vs, SqT K H a vs ∧ Rvs K loc H xs vs) where
  keep := fun loc H loc' H' e ⟨vs, h1, h2⟩ => ⟨vs, e.sqT h1, h2.mono e⟩
  stop := fun i mem loc H rs ⟨vs, h1, h2⟩ e => ⟨vs, h1, by
    have e' := Option.some.inj e
    have l := h2.length
    rw [List.getElem?_eq_none_iff] at e'
    omega⟩
  go := fun i mem loc H x rs ⟨vs, h1, h2⟩ e => by
    obtain ⟨v, hv, rv⟩ := h2.get (Option.some.inj e)
    refine ⟨⟨vs, v, h1, hv⟩, fun v' H' y => ?_⟩
    obtain ⟨rfl, y⟩ := y
    have := y vs h1
    rw [hv] at this
    cases this
    exact ⟨Ext.refl, rs, rv⟩
theorem walks_rol {a : Addr} {xs : List W} : Walks K (Itl K a) (tupN xs) (fun loc H => ∃ vs, RoL K H a vs ∧ Rvs K loc H xs vs) where
  keep := fun loc H loc' H' e ⟨vs, h1, h2⟩ => ⟨vs, e.rol h1, h2.mono e⟩
  stop := fun i mem loc H rs ⟨vs, h1, h2⟩ e => ⟨vs, h1.sq, by
    have e' := Option.some.inj e
    have l := h2.length
    rw [List.getElem?_eq_none_iff] at e'
    omega⟩
  go := fun i mem loc H x rs ⟨vs, h1, h2⟩ e => by
    obtain ⟨v, hv, rv⟩ := h2.get (Option.some.inj e)
    refine ⟨⟨vs, v, h1.sq, hv⟩, fun v' H' y => ?_⟩
    obtain ⟨rfl, y⟩ := y
    have := y vs h1.sq
    rw [hv] at this
    cases this
    exact ⟨Ext.refl, rs, rv⟩
theorem listAt_some {mem : Mem} {n : Nat} {xs : List W} (h : listAt mem n = some xs) : mem[n]? = some (.lst xs) := by
  unfold listAt at h
  split at h
  · cases h; assumption
  · cases h
theorem rs_list {mem : Mem} {loc : Locs} {H : Hp} {n : Nat} {xs : List W} {a : Addr} (rs : Rs K mem loc H) (h : listAt mem n = some xs) (ha : loc[n]? = some a) : ∃ vs, H a = some (.lst vs) ∧ Rvs K loc H xs vs := by
  obtain ⟨b, hb, r⟩ := rs.cell n _ (listAt_some h)
  rw [ha] at hb
  cases hb
  exact r
theorem walks_loc {a : Addr} {n : Nat} : Walks K (Itl K a) (locN n) (fun loc H => loc[n]? = some a) where
  keep := fun loc H loc' H' e h => e.at h
  stop := fun i mem loc H rs h e => by
    unfold locN at e
    cases el : listAt mem n with
    | none => rw [el] at e; cases e
    | some xs =>
      rw [el] at e
      obtain ⟨vs, h1, h2⟩ := rs_list rs el h
      have e' : xs[i]? = none := by simpa using e
      have l := h2.length
      rw [List.getElem?_eq_none_iff] at e'
      exact ⟨vs, SqL.of h1, by omega⟩
  go := fun i mem loc H x rs h e => by
    unfold locN at e
    cases el : listAt mem n with
    | none => rw [el] at e; cases e
    | some xs =>
      rw [el] at e
      obtain ⟨vs, h1, h2⟩ := rs_list rs el h
      have e' : xs[i]? = some x := by simpa using e
      obtain ⟨v, hv, rv⟩ := h2.get e'
      refine ⟨⟨vs, v, SqL.of h1, hv⟩, fun v' H' y => ?_⟩
      obtain ⟨rfl, y⟩ := y
      have := y vs (SqL.of h1)
      rw [hv] at this
      cases this
      exact ⟨Ext.refl, rs, rv⟩
theorem walks_rng {lo : Int} {n : Nat} : Walks K (Itr lo n) (rngN lo n) (fun _ _ => True) where
  keep := fun _ _ _ _ _ _ => trivial
  stop := fun i mem loc H rs _ e => by
    show n ≤ i
    by_cases h : i < n
    · simp [rngN, h] at e
    · omega
  go := fun i mem loc H x rs _ e => by
    by_cases h : i < n
    · simp [rngN, h] at e
      subst e
      refine ⟨h, fun v H' y => ?_⟩
      obtain ⟨rfl, rfl⟩ := y
      exact ⟨Ext.refl, rs, .int _⟩
    · simp [rngN, h] at e
end
section
variable {X : Cx} {W' : WX} {tg : Expr} {pos : Pos}
theorem si_seq {l : Expr} {m : EM} (hl : SE X W' l m) : SI X W' tg l (seqI m) := by
  refine pi_imp (PI.or (pi_tup hl) (pi_list hl)) fun σ H R h => ?_
  obtain ⟨env, mem, loc, re, rs, h⟩ := h
  -- which of the two: by what the value is
  cases em : m env mem with
  | exc x m1 =>
    refine .inl ⟨env, mem, loc, re, rs, ?_⟩
    unfold seqI SM.bind at h
    rw [em] at h ⊢
    exact h
  | bad =>
    unfold seqI SM.bind at h
    rw [em] at h
    exact h.elim
  | ok w m1 =>
    unfold seqI SM.bind at h
    rw [em] at h
    dsimp only at h
    cases w with
    | tup xs =>
      refine .inl ⟨env, mem, loc, re, rs, ?_⟩
      rw [em]
      intro v H1 loc1 e1 rs1 rv1
      cases rv1 with
      | @tup ws a vs h1 h2 => exact ⟨a, rfl, ⟨vs, h1⟩, h _ H1 loc1 _ e1 rs1 walks_tup ⟨vs, h1, h2⟩⟩
    | rol xs =>
      refine .inr ⟨env, mem, loc, re, rs, ?_⟩
      rw [em]
      intro v H1 loc1 e1 rs1 rv1
      cases rv1 with
      | @rol ws a vs h1 h2 => exact ⟨a, rfl, ⟨vs, h1.sq⟩, h _ H1 loc1 _ e1 rs1 walks_rol ⟨vs, h1, h2⟩⟩
    | loc n =>
      refine .inr ⟨env, mem, loc, re, rs, ?_⟩
      rw [em]
      intro v H1 loc1 e1 rs1 rv1
      cases rv1 with
      | @loc n a h1 =>
        unfold walkOf at h
        dsimp only at h
        cases el : listAt m1 n with
        | none => rw [el] at h; exact h.elim
        | some xs =>
          rw [el] at h
          obtain ⟨vs, h2, h3⟩ := rs_list rs1 el h1
          exact ⟨a, rfl, ⟨vs, SqL.of h2⟩, h _ H1 loc1 _ e1 rs1 walks_loc h1⟩
    | _ => exact h.elim
theorem si_range1 {a : Expr} {as : AM} {p pos : Pos} (hg : Gl X "range") (hm : X.mg "range" = none) (ha : SA X W' [a] as) (hs : starEach [a] X.env = [(false, eval a X.env)] := by rfl) : SI X W' tg (.Call (.Name "range" p) [a] [] pos) (rng1I as) := by
  refine pi_imp (pi_range1 hg hm ha hs) fun σ H R h => ?_
  obtain ⟨env, mem, loc, re, rs, h⟩ := h
  refine ⟨env, mem, loc, re, rs, (post_bind h).imp (fun ws m1 hp vs H1 loc1 e1 rs1 rv1 => ?_) fun _ _ z => z⟩
  cases rv1 with
  | nil => exact hp.elim
  | @cons w v ws vs r1 r2 =>
    cases r2 with
    | cons _ _ => cases w <;> exact hp.elim
    | nil =>
      cases w with
      | int j =>
        cases r1
        dsimp only at hp
        by_cases hj : -(2 ^ 62) ≤ j ∧ j < 2 ^ 62
        · rw [if_pos hj] at hp
          exact ⟨j, rfl, hj.1, hj.2, hp _ H1 loc1 _ e1 rs1 walks_rng trivial⟩
        · rw [if_neg hj] at hp
          exact hp.elim
      | _ => exact hp.elim
theorem si_range2 {a b : Expr} {as : AM} {p pos : Pos} (hg : Gl X "range") (hm : X.mg "range" = none) (ha : SA X W' [a, b] as) (hs : starEach [a, b] X.env = [(false, eval a X.env), (false, eval b X.env)] := by rfl) (hs2 : starEach [b] X.env = [(false, eval b X.env)] := by rfl) : SI X W' tg (.Call (.Name "range" p) [a, b] [] pos) (rng2I as) := by
  refine pi_imp (pi_range2 hg hm ha hs hs2) fun σ H R h => ?_
  obtain ⟨env, mem, loc, re, rs, h⟩ := h
  refine ⟨env, mem, loc, re, rs, (post_bind h).imp (fun ws m1 hp vs H1 loc1 e1 rs1 rv1 => ?_) fun _ _ z => z⟩
  match ws, vs, rv1, hp with
  | [.int i, .int j], _, .cons (.int _) (.cons (.int _) .nil), hp =>
    dsimp only at hp
    by_cases hj : -(2 ^ 62) ≤ i ∧ i < 2 ^ 62 ∧ -(2 ^ 62) ≤ j ∧ j < 2 ^ 62
    · rw [if_pos hj] at hp
      exact ⟨i, j, rfl, hj, hp _ H1 loc1 _ e1 rs1 walks_rng trivial⟩
    · rw [if_neg hj] at hp
      exact hp.elim
theorem ss_for {iter : Expr} {body : List Stmt} {it : IM} {g : GM} {s : SS} (hp : PassesOwn (model X.prog X.w) X.A X.env X.xe) (hc : X.calm = true) (hi : SI X W' tg iter it) (hg : SG X tg g) (hb : SBl X W' body s)
    (hs : ∀ x, foldedSetIterable iter X.env x = pure x := by intro _; rfl) : SSt X W' (.For tg iter body [] pos) (forS it g s) := by
  refine ps_imp (ps_for hp hc hi hg hb hs) fun D σ H ⟨env, mem, loc, re, rs, h⟩ => ?_
  refine ⟨env, mem, loc, re, rs, (ofE_post h).imp (fun wk m1 hp J H1 loc1 P e1 rs1 w p => ?_) fun _ _ z => exQ_of re z⟩
  exact for_walk w (re.mono e1) rs1 p (stD.mono e1 hp)
end

/-! ### comprehensions -/
abbrev WX0 : WX := fun _ _ _ _ => False
def wipeE (env : VEnv) : List Nat → VEnv
  | [] => env
  | v :: vs => (wipeE env vs).set v none
def lcLoop (nx : Nxt) (g : GM) (t : BM) (e : EM) (vs : List Nat) (D : Nat) (env : VEnv) : Nat → Nat → Mem → Option Mem := fun k i mem => match nx i mem with
  | none => none
  | some none => some mem
  | some (some x) => match k with
    | 0 => none
    | k + 1 => match g x (wipeE env vs) mem with
      | .ok e2 m2 => match t e2 m2 with
        | .ok true m3 => match e e2 m3 with
          | .ok w m4 => match listAt m4 D with
            | some acc => if acc.length < sizeLine then lcLoop nx g t e vs D env k (i + 1) (m4.set D (.lst (acc ++ [w]))) else none
            | none => none
          | _ => none
        | .ok false m3 => lcLoop nx g t e vs D env k (i + 1) m3
        | _ => none
      | _ => none
def lcE (it : IM) (g : GM) (t : BM) (e : EM) (vs : List Nat) : EM := fun env => SM.bind (it env) fun wk mem =>
  match lcLoop wk.nx g t e vs mem.length env wk.k 0 (mem ++ [.lst []]) with
  | some m => .ok (.loc mem.length) m
  | none => .bad
/-- a target that stores in the slots vs alone -/
def Out (vs : List Nat) (σ σ' : L2.St) : Prop := σ'.length = σ.length ∧ ∀ j, j ∉ vs → σ'[j]? = σ[j]?
theorem Out.refl {vs : List Nat} {σ : L2.St} : Out vs σ σ := ⟨rfl, fun _ _ => rfl⟩
theorem Out.trans {vs : List Nat} {σ σ1 σ2 : L2.St} (a : Out vs σ σ1) (b : Out vs σ1 σ2) : Out vs σ σ2 := ⟨b.1.trans a.1, fun j h => (b.2 j h).trans (a.2 j h)⟩
theorem Out.set {vs : List Nat} {σ : L2.St} {i : Nat} {x : Option V} (h : i ∈ vs) : Out vs σ (σ.set i x) := ⟨List.length_set, fun j hj => List.getElem?_set_ne (by rintro rfl; exact hj h)⟩
theorem wipe_get (σ : L2.St) : ∀ (vs : List Nat) (j : Nat), (L2.wipe σ vs)[j]? = if j ∈ vs ∧ j < σ.length then some none else σ[j]?
  | [], j => by simp [L2.wipe]
  | v :: vs, j => by
    unfold L2.wipe
    by_cases hj : v = j
    · subst hj
      by_cases hl : v < σ.length
      · rw [List.getElem?_set_self (by rw [L2.wipe_length]; exact hl), if_pos ⟨List.mem_cons_self, hl⟩]
      · rw [if_neg (fun h => hl h.2), List.getElem?_eq_none (by rw [List.length_set, L2.wipe_length]; omega), List.getElem?_eq_none (by omega)]
    · rw [List.getElem?_set_ne hj, wipe_get σ vs j]
      by_cases hm : j ∈ vs
      · by_cases hl : j < σ.length
        · rw [if_pos ⟨hm, hl⟩, if_pos ⟨List.mem_cons_of_mem _ hm, hl⟩]
        · rw [if_neg (fun z => hl z.2), if_neg (fun z => hl z.2)]
      · rw [if_neg (fun z => hm z.1), if_neg (fun z => (List.mem_cons.mp z.1).elim (fun q => hj q.symm) hm)]
theorem Out.wipe {vs : List Nat} {σ σ' : L2.St} (h : Out vs (L2.wipe σ vs) σ') : L2.wipe σ' vs = L2.wipe σ vs := by
  have hl : σ'.length = σ.length := h.1.trans (L2.wipe_length _ _)
  refine List.ext_getElem?
          fun j => ?_
  rw [wipe_get, wipe_get, hl]
  by_cases hj : j ∈ vs
  · by_cases hz : j < σ.length
    · rw [if_pos ⟨hj, hz⟩, if_pos ⟨hj, hz⟩]
    · rw [if_neg (fun z => hz z.2), if_neg (fun z => hz z.2), List.getElem?_eq_none (by omega), List.getElem?_eq_none (by omega)]
  · rw [if_neg (fun z => hj z.1), if_neg (fun z => hj z.1), h.2 j hj, wipe_get, if_neg (fun z => hj z.1)]
def denO (K : PySem.W.Frag) (vs : List Nat) (g : GM) : TG := fun v σ H Q => ∃ w env mem loc, Rv K loc H w v ∧ REnv K loc H env σ ∧ Rs K mem loc H ∧
  (g w env mem).Post (fun env' mem' => stQ K loc H (fun σ' H' => Out vs σ σ' → Q σ' H') env' mem') noX
def denOs (K : PySem.W.Frag) (vs : List Nat) (g : GMs) : TGs := fun us σ H Q => ∃ ws env mem loc, Rvs K loc H ws us ∧ REnv K loc H env σ ∧ Rs K mem loc H ∧
  (g ws env mem).Post (fun env' mem' => stQ K loc H (fun σ' H' => Out vs σ σ' → Q σ' H') env' mem') noX
def SO (X : Cx) (vs : List Nat) (tg : Expr) (g : GM) : Prop := PG X tg (denO X.K vs g)
def SOs (X : Cx) (vs : List Nat) (tg : List Expr) (g : GMs) : Prop := PGs X tg (denOs X.K vs g)
section
variable {X : Cx} {vs : List Nat} {pos : Pos}
theorem so_name {i : Nat} {x : Str} (hN : X.N.Nodup) (hi : X.N[i]? = some x) (hx : Loc X.env.scope x) (hv : i ∈ vs) (hf : X.fn x = true ∨ X.env.scope.names.lookup x = some .local := by first | exact .inl rfl | exact .inr rfl | assumption) : SO X vs (.Name x pos) (nameG i) :=
  ⟨fun pins s σ H v u Q I r h => (pg_name hN hi hx hf).run pins s σ H v u Q I r (by
    obtain ⟨w, env, mem, loc, rv, re, rs, h⟩ := h
    exact h _ H loc Ext.refl rs (re.set rv i) (Out.set hv))⟩
theorem sos_nil : SOs X vs [] nilG := ⟨fun pins s σ H us uu Q I r h => pgs_nil.run pins s σ H us uu Q I r (by
  obtain ⟨ws, env, mem, loc, rv, re, rs, h⟩ := h
  cases rv with
  | nil => exact ⟨rfl, h σ H loc Ext.refl rs re Out.refl⟩
  | cons _ _ => exact h.elim)⟩
theorem sos_cons {e : Expr} {es : List Expr} {g : GM} {r : GMs} (h1 : SO X vs e g) (h2 : SOs X vs es r)
    (hs : (assignEach (e :: es) X.env).map (·.2) = assign e X.env :: (assignEach es X.env).map (·.2) := by rfl) : SOs X vs (e :: es) (consG g r) :=
  ⟨fun pins s σ H us uu Q I rr h => (pgs_cons h1 h2 hs).run pins s σ H us uu Q I rr (by
    obtain ⟨ws, env, mem, loc, rv, re, rs, h⟩ := h
    cases rv with
    | nil => exact h.elim
    | @cons w v ws us r1 r2 =>
      refine ⟨v, us, rfl, w, env, mem, loc, r1, re, rs, (post_bind (f := fun env' => r ws env') h).imp (fun env1 mem1 z σ1 H1 loc1 e1 rs1 re1 o1 => ?_) fun _ _ z => z⟩
      exact ⟨ws, env1, mem1, loc1, r2.mono e1, re1, rs1, z.imp (fun _ _ z σ2 H2 l2 e2 rs2 re2 o2 => z σ2 H2 l2 (e1.trans e2) rs2 re2 (o1.trans o2)) fun _ _ z => z⟩)⟩
theorem so_tup {es : List Expr} {k : Nat} {g : GMs} {n : Nat} (hc : X.calm = true) (h : SOs X vs es g)
    (hn : (assignEach es X.env).length = n := by rfl) (hst : (assignEach es X.env).findIdx? (·.1) = none := by rfl) : SO X vs (.Tuple es k pos) (tupG n g) :=
  ⟨fun pins s σ H v u Q I rr hq => (pg_tup hc h hn hst).run pins s σ H v u Q I rr (by
    obtain ⟨w, env, mem, loc, rv, re, rs, hq⟩ := hq
    cases rv with
    | @tup ws a us h1 h2 =>
      by_cases hl : ws.length = n
      · unfold tupG at hq
        dsimp only at hq
        rw [if_pos hl] at hq
        exact ⟨a, us, rfl, h1, by rw [← h2.length]; exact hl, ws, env, mem, loc, h2, re, rs, hq⟩
      · exact False.elim (by
          unfold tupG at hq
          dsimp only at hq
          rw [if_neg hl] at hq
          exact hq)
    | _ => exact False.elim hq)⟩
end
section
variable {K : PySem.W.Frag} {loc : Locs} {H : Hp} {env : VEnv} {σ : L2.St}
theorem REnv.wipe (r : REnv K loc H env σ) : ∀ vs : List Nat, REnv K loc H (wipeE env vs) (L2.wipe σ vs)
  | [] => r
  | v :: vs => (r.wipe vs).unset v
def yesB : BM := fun _ => SM.pure true
theorem bad_of {α : Type} {r : Res α} {ok : α → Mem → Prop} (h : ∃ a m, r = .ok a m ∧ ok a m) {ex : Exc → Mem → Prop} : r.Post ok ex := by
  obtain ⟨a, m, rfl, h⟩ := h
  exact h
theorem den_lc {W' : WX} {it : IM} {g : GM} {t : BM} {e : EM} {vs : List Nat} {Q : VK} (h : denE K W' (lcE it g t e vs) σ H Q) :
    tLc (denI K W' it) (denO K vs g) (denB K WX0 t) (denE K WX0 e) vs σ H Q := by
  obtain ⟨env, mem, loc, re, rs, h⟩ := h
  refine ⟨env, mem, loc, re, rs, (post_bind h).imp (fun wk m1 hp J H1 loc1 P e1 rs1 w p D hD => ?_) fun _ _ z => z⟩
  have re1 := re.mono e1
  obtain ⟨rsD, rvD⟩ := rs_newlist rs1 (.nil (K := K) (loc := loc1) (H := H1)) hD
  have eD : Ext loc1 H1 (loc1 ++ [D]) (upd H1 D (.lst [])) := Ext.alloc hD
  have atD : (loc1 ++ [D])[m1.length]? = some D := by cases rvD with | loc h => exact h
  generalize m1.length = n0 at hp atD
  cases el : lcLoop wk.nx g t e vs n0 env wk.k 0 (m1 ++ [.lst []]) with
  | none => rw [el] at hp; exact hp.elim
  | some mf =>
    rw [el] at hp
    refine ⟨fun i m H => ∃ mem loc, REnv K loc H env σ ∧ Rs K mem loc H ∧ P loc H ∧ loc[n0]? = some D ∧ lcLoop wk.nx g t e vs n0 env m i mem = some mf ∧ okQ K loc H Q (.loc n0) mf,
      ⟨wk.k, m1 ++ [.lst []], loc1 ++ [D], re1.mono eD, rsD, w.keep _ _ _ _ eD p, atD, el, okQ.mono (e1.trans eD) hp⟩, ?_⟩
    rintro i m H2 ⟨mem2, loc2, re2, rs2, p2, at2, el2, q2⟩
    unfold lcLoop at el2
    cases en : wk.nx i mem2 with
    | none => rw [en] at el2; cases el2
    | some o =>
      cases o with
      | none =>
        rw [en] at el2
        cases el2
        exact .inl ⟨w.stop i mf loc2 H2 rs2 p2 en, q2 _ H2 loc2 Ext.refl rs2 (.loc at2)⟩
      | some x =>
        rw [en] at el2
        obtain ⟨go, yld⟩ := w.go i mem2 loc2 H2 x rs2 p2 en
        cases m with
        | zero => cases el2
        | succ m =>
          dsimp only at el2
          refine .inr ⟨go, fun H' => ∃ mem loc, REnv K loc H' env σ ∧ Rs K mem loc H' ∧ P loc H' ∧ loc[n0]? = some D ∧ lcLoop wk.nx g t e vs n0 env m (i + 1) mem = some mf ∧ okQ K loc H' Q (.loc n0) mf, fun H' z => ⟨m, Nat.lt_succ_self m, z⟩, fun v H3 y => ?_⟩
          obtain ⟨e3, rs3, rv3⟩ := yld v H3 y
          refine ⟨x, wipeE env vs, mem2, loc2, rv3, (re2.mono e3).wipe vs, rs3, ?_⟩
          cases eg : g x (wipeE env vs) mem2 with
          | exc _ _ => rw [eg] at el2; cases el2
          | bad => rw [eg] at el2; cases el2
          | ok env4 mem4 =>
            rw [eg] at el2
            dsimp only at el2
            intro σ4 H4 loc4 e4 rs4 re4 o4
            refine ⟨o4.wipe, env4, mem4, loc4, re4, rs4, ?_⟩
            cases et : t env4 mem4 with
            | exc _ _ => rw [et] at el2; cases el2
            | bad => rw [et] at el2; cases el2
            | ok b mem5 =>
              rw [et] at el2
              intro H5 loc5 e5 rs5
              have e25 := (e3.trans e4).trans e5
              cases b with
              | false =>
                dsimp only at el2
                exact ⟨mem5, loc5, re2.mono e25, rs5, w.keep _ _ _ _ e25 p2, e25.at at2, el2, q2.mono e25⟩
              | true =>
                dsimp only at el2
                refine ⟨env4, mem5, loc5, re4.mono e5, rs5, ?_⟩
                cases ee : e env4 mem5 with
                | exc _ _ => rw [ee] at el2; cases el2
                | bad => rw [ee] at el2; cases el2
                | ok wv mem6 =>
                  rw [ee] at el2
                  dsimp only at el2
                  intro v6 H6 loc6 e6 rs6 rv6
                  have e26 := e25.trans e6
                  cases ea : listAt mem6 n0 with
                  | none => rw [ea] at el2; cases el2
                  | some acc =>
                    rw [ea] at el2
                    dsimp only at el2
                    obtain ⟨us, hus, rus⟩ := rs_list rs6 ea (e26.at at2)
                    by_cases hz : acc.length < sizeLine
                    · rw [if_pos hz] at el2
                      have ew : Ext loc6 H6 loc6 (upd H6 D (.lst (us ++ [v6]))) := Ext.wr hus trivial
                      refine ⟨us, hus, by rw [← rus.length]; exact hz, mem6.set n0 (.lst (acc ++ [wv])), loc6, re2.mono (e26.trans ew), ?_, w.keep _ _ _ _ (e26.trans ew) p2, e26.at at2, el2, q2.mono (e26.trans ew)⟩
                      exact rs6.write (e26.at at2) hus trivial ⟨_, upd_same, (rus.mono ew).append (.cons (rv6.mono ew) .nil)⟩
                    · rw [if_neg hz] at el2
                      cases el2
end
section
variable {X : Cx} {W' : WX}
theorem se_lc {elt tg iter : Expr} {ifs : List Expr} {scope : Scope} {own : List (Str × Nat)} {pos : Pos} {it : IM} {g : GM} {t : BM} {e : EM} (hc : X.calm = true) (hN : X.N.Nodup) (hi : SI X W' tg iter it) (ok : BlkOk X.N X.env.scope scope own)
    (hg : ∀ (s : Shared) (H : Hp) (C : Addr) (cl : List (Str × Addr)) (fp : List Addr), SO (X.blk s H scope (compEnvC scope cl C X.env) fp) (own.map (·.2)) tg g)
    (ht : ∀ (s : Shared) (H : Hp) (C : Addr) (cl : List (Str × Addr)) (fp : List Addr), PTs (X.blk s H scope (compEnvC scope cl C X.env) fp) ifs (denB X.K WX0 t))
    (he : ∀ (s : Shared) (H : Hp) (C : Addr) (cl : List (Str × Addr)) (fp : List Addr), SE (X.blk s H scope (compEnvC scope cl C X.env) fp) WX0 elt e) (hs : ∀ x, foldedSetIterable iter X.env x = pure x := by intro _; rfl) :
    SE X W' (.ListComp elt [⟨tg, iter, ifs, 0⟩] scope pos) (lcE it g t e (own.map (·.2))) := by
  have hg' : ∀ (s : Shared) (H : Hp) (C : Addr) (cl : List (Str × Addr)) (fp : List Addr), PG (X.blk s H scope (compEnvC scope cl C X.env) fp) tg (denO X.K (own.map (·.2)) g) := hg
  have he' : ∀ (s : Shared) (H : Hp) (C : Addr) (cl : List (Str × Addr)) (fp : List Addr), PE (X.blk s H scope (compEnvC scope cl C X.env) fp) elt (denE X.K WX0 e) := he
  have hi' : PI X tg iter (denI X.K W' it) := hi
  exact pe_imp (pe_lc hc hN hi' ok hg' ht he' hs) fun _ _ _ h => den_lc h
theorem ss_setLc {i : Nat} {y : Str} {py : Pos} {elt tg iter : Expr} {ifs : List Expr} {scope : Scope} {own : List (Str × Nat)} {pos spos : Pos} {it : IM} {g : GM} {t : BM} {e : EM} (hc : X.calm = true) (hN : X.N.Nodup) (hy : X.N[i]? = some y) (hyl : X.env.scope.names.lookup y = some .local)
    (hsw : swapsWith (.ListComp elt [⟨tg, iter, ifs, 0⟩] scope pos) (some (.Name y py)) spos.line X.env = pure true) (hi : SI X W' tg iter it) (ok : BlkOk X.N X.env.scope scope own)
    (hg : ∀ (s : Shared) (H : Hp) (C : Addr) (cl : List (Str × Addr)) (fp : List Addr), SO (X.blk s H scope (compEnvC scope cl C X.env) fp) (own.map (·.2)) tg g)
    (ht : ∀ (s : Shared) (H : Hp) (C : Addr) (cl : List (Str × Addr)) (fp : List Addr), PTs (X.blk s H scope (compEnvC scope cl C X.env) fp) ifs (denB X.K WX0 t))
    (he : ∀ (s : Shared) (H : Hp) (C : Addr) (cl : List (Str × Addr)) (fp : List Addr), SE (X.blk s H scope (compEnvC scope cl C X.env) fp) WX0 elt e) (hs : ∀ x, foldedSetIterable iter X.env x = pure x := by intro _; rfl) :
    SSt X W' (.Assign [.Name y py] (.ListComp elt [⟨tg, iter, ifs, 0⟩] scope pos) spos) (setS i (lcE it g t e (own.map (·.2)))) := by
  have hg' : ∀ (s : Shared) (H : Hp) (C : Addr) (cl : List (Str × Addr)) (fp : List Addr), PG (X.blk s H scope (compEnvC scope cl C X.env) fp) tg (denO X.K (own.map (·.2)) g) := hg
  have he' : ∀ (s : Shared) (H : Hp) (C : Addr) (cl : List (Str × Addr)) (fp : List Addr), PE (X.blk s H scope (compEnvC scope cl C X.env) fp) elt (denE X.K WX0 e) := he
  have hi' : PI X tg iter (denI X.K W' it) := hi
  refine ps_imp (ps_setLc hc hN hy hyl hsw hi' ok hg' ht he' hs) fun D σ H ⟨env, mem, loc, re, rs, h⟩ => ?_
  exact den_lc (denE_of re rs h fun w mem1 v H1 loc1 e1 rs1 rv1 re1 h1 => h1 _ H1 loc1 Ext.refl rs1 (re1.set rv1 i))
theorem sts_nil {Y : Cx} : PTs Y [] (denB Y.K WX0 yesB) := ⟨fun pins s σ H Q I h => pts_nil.run pins s σ H Q I (by
  obtain ⟨env, mem, loc, re, rs, h⟩ := h
  exact h H loc Ext.refl rs)⟩
theorem sts_one {Y : Cx} {c : Expr} {t : BM} (h : SB Y WX0 c t) : PTs Y [c] (denB Y.K WX0 t) := pts_one h
end

/-! ### defs -/
abbrev Fn := List W → SM W
def spS (K : PySem.W.Frag) (n : Nat) (F : Fn) : Sp := fun vs H Q E => vs.length = n ∧ ∃ ws mem loc, Rvs K loc H ws vs ∧ Rs K mem loc H ∧
  (F ws mem).Post (okQ K loc H Q) (fun x mem' => ∀ cls d H' loc', Ext loc H loc' H' → Rs K mem' loc' H' → Rx K loc' H' x cls d → E cls d H')
def FnS (P : Program) (w : World) (K : PySem.W.Frag) (mg : Str → Option Value) (base : Heap) (k : Nat) (f : Addr) (fd : FuncData) (ps : List Str) (F : Fn) : Prop :=
  FnOk P w K mg base (L2.CX P w) k f fd ps (spS K ps.length F)
def startE (n : Nat) (ws : List W) : VEnv := ws.map some ++ List.replicate (n - ws.length) none
/-- a body's answer -/
def runB (n : Nat) (s : SS) : Fn := fun ws mem => match s (startE n ws) mem with
  | .nx _ m => .ok .non m
  | .rt w m => .ok w m
  | .exc x _ m => .exc x m
  | _ => .bad
theorem renv_start {K : PySem.W.Frag} {loc : Locs} {H : Hp} {N : List Str} {ws : List W} {vs : List V} (r : Rvs K loc H ws vs) : REnv K loc H (startE N.length ws) (L2.start N vs) := by
  have l := r.length
  refine ⟨by unfold startE L2.start; simp [l], fun i w h => ?_⟩
  unfold startE at h
  unfold L2.start
  by_cases hi : i < ws.length
  · rw [List.getElem?_append_left (by simpa using hi), List.getElem?_map] at h
    cases e : ws[i]? with
    | none => rw [e]
            at h; cases h
    | some u =>
      rw [e] at h
      cases h
      obtain ⟨v, hv, rv⟩ := r.get e
      exact ⟨v, by rw [List.getElem?_append_left (by rw [List.length_map]; omega), List.getElem?_map, hv]; rfl, rv⟩
  · rw [List.getElem?_append_right (by simpa using hi), List.getElem?_replicate] at h
    split at h <;> cases h
section
variable {P : Program} {w : World} {K : PySem.W.Frag}
        {mg : Str → Option Value} {base : Heap}
theorem FnS.mono {j k : Nat} {f : Addr} {fd : FuncData} {ps : List Str} {F : Fn} (h : FnS P w K mg base j f fd ps F) (l : j ≤ k) : FnS P w K mg base k f fd ps F := FnOk.mono h l
theorem FnS.bad {f : Addr} {fd : FuncData} {ps : List Str} {k : Nat} : FnS P w K mg base k f fd ps (fun _ _ => .bad) :=
  ⟨fun vs H Q E h => h.1, fun A outer s H args us vs Q E hr e0 hb r h => by obtain ⟨_, _, _, _, _, _, h⟩ := h; exact h.elim⟩
/-- another answer that is as good -/
theorem FnS.imp {k : Nat} {f : Addr} {fd : FuncData} {ps : List Str} {F F' : Fn} (h : FnS P w K mg base k f fd ps F) (i : ∀ ws mem, F' ws mem = .bad ∨ F' ws mem = F ws mem) : FnS P w K mg base k f fd ps F' :=
  FnOk.imp h fun vs H Q E ⟨l, ws, mem, loc, rv, rs, q⟩ => ⟨l, ws, mem, loc, rv, rs, by
    rcases i ws mem with e | e
    · rw [e] at q; exact q.elim
    · rw [e] at q; exact q⟩
theorem fn_ok {x qual : Str} {st : Stmt} {f : Addr} {fd : FuncData} {N ps : List Str} {k : Nat} {s : SS} (F : Fun K x qual st f fd) (S : FnScope N ps (defScope st))
    (hbody : ∀ (cdv : Value) (A : Around) (outer : List Env) (s0 : Shared) (H : Hp) (E : XK), Room k (A.deeper (envOfC qual (defScope st) s0.heap.objs.size f cdv)) →
      SBl (cxOf (L2.CX P w) P w K mg base N qual (defScope st) f cdv A outer s0 H E) (fun cls d _ H => E cls d H) (defBody st) s) :
    FnS P w K mg base (k + 1) f fd ps (runB N.length s) := by
  refine F.okX S (fun vs H Q E h => h.1) (fun cdv A outer s0 H vs Q E hr h => ⟨_, hbody cdv A outer s0 H E hr, ?_⟩)
  obtain ⟨l, ws, mem, loc, rv, rs, h⟩ := h
  refine ⟨startE N.length ws, mem, loc, renv_start rv, rs, ?_⟩
  unfold runB at h
  cases e : s (startE N.length ws) mem with
  | nx e1 m => rw [e] at h; exact fun σ' H' loc' x r _ => h .non H' loc' x r .non
  | rt u m => rw [e] at h; exact h
  | bk e1 m => rw [e] at h; exact h.elim
  | ct e1 m => rw [e] at h; exact h.elim
  | exc x e1 m => rw [e] at h; exact fun cls d σ' H' loc' y r z _ => h cls d H' loc' y r z
  | bad => rw [e] at h; exact h.elim
end
def callF (F : Fn) (as : AM) : EM := fun env => SM.bind (as env) fun ws => F ws
section
variable {X : Cx} {W' : WX} {k : Nat} {f : Addr} {fd : FuncData} {ps : List Str} {F : Fn} {x : Str} {p pos : Pos} {e : Expr} {es : List Expr} {as : AM}
theorem den_call {K : PySem.W.Frag} {σ : L2.St} {H : Hp} {Q : VK} {n : Nat} (h : denE K W' (callF F as) σ H Q) (hn : ∀ env mem ws m, as env mem = .ok ws m → ws.length = n) :
    denA K W' as σ H fun vs H1 => spS K n F vs H1 Q (WE W' σ) := by
  obtain ⟨env, mem, loc, re, rs, h⟩ := h
  refine ⟨env, mem, loc, re, rs, ?_⟩
  have h' := post_bind (f := fun ws => F ws) h
  cases ea : as env mem with
  | exc x m => rw [ea] at h'; exact h'
  | bad => rw [ea] at h'; exact h'
  | ok ws m1 =>
    rw [ea] at h'
    intro vs H1 loc1 e1 rs1 rv1
    exact ⟨by rw [← rv1.length]; exact hn env mem ws m1 ea, ws, m1, loc1, rv1, rs1, Res.Post.imp h' (fun _ _ z => okQ.mono e1 z) fun y m2 z cls d H2 l2 e2 => z cls d H2 l2 (e1.trans e2)⟩
/-- how many arguments -/
def NArgs (n : Nat) (as : AM) : Prop := ∀ env mem ws m, as env mem = .ok ws m → ws.length = n
theorem nargs_nil : NArgs 0 nilA := fun env mem ws m h => by cases h; rfl
theorem nargs_cons {n : Nat} {m : EM} {as : AM} (h : NArgs n as) : NArgs (n + 1) (consA m as) := fun env mem ws m' e => by
  unfold consA SM.bind SM.pure at e
  cases e1 : m env mem with
  | ok w m1 =>
    rw [e1] at e
    dsimp only at e
    cases e2 : as env m1 with
    | ok us m2 =>
      rw [e2] at e
      dsimp only at e
      cases e
      rw [List.length_cons, h env m1 us m' e2]
    | exc _ _ => rw [e2] at e; cases e
    | bad => rw [e2] at e; cases e
  | exc _ _ => rw [e1] at e; cases e
  | bad => rw [e1] at e; cases e
theorem se_call (G : FnS X.prog X.w X.K X.mg X.base k f fd ps F) (hr : Room k X.A) (hg : Gl X x) (hm : X.mg x = some (.ref f)) (hk : PySem.W.keepIn X.K (.ref f) = true) (hb : Binds X.K fd ps []) (tk : Takes X W')
    (ha : SA X W' (e :: es) as) (hn : NArgs ps.length as) (hdb : (x == ("__debug__" : Str)) = false := by decide) (he : starEach (e :: es) X.env = (false, eval e X.env) :: starEach es X.env := by rfl) (hpl : (backTo pos (starEach es X.env)).any (·.1) = false := by rfl) :
    SE X W' (.Call (.Name x p) (e :: es) [] pos) (callF F as) :=
  pe_imp (pe_callS G hr hg hm hk hb (fun σ => passAt tk σ) ha hdb he hpl) fun _ _ _ h => den_call h hn
end
end Sh
set_option linter.all false
set_option maxRecDepth 100000
set_option
        maxHeartbeats 4000000
/-! Sh4: operations on values. -/
namespace Sh
open PySem PySem.Spec
        PyProof.Rows L2

/-! ### the heap stays, the answer is flat -/
theorem opR_of {X : Cx} {g : Value → Value → Sem Value} {r : R2} {f : Op2} (ho : OpR X g r) (h : ∀ wx wy mem loc H x y w mem' (Q : VK), Rs X.K mem loc H → Rv X.K loc H wx x → Rv X.K loc H wy y → f wx wy mem = some (w, mem') → okQ X.K loc H Q w mem' → r x y H Q) : OpR X g (opP X.K f) :=
  fun pins s σ H x y v u Q I rx ry q => by
    obtain ⟨wx, wy, mem, loc, rs, r1, r2, w, mem', e, q⟩ := q
    exact ho pins s σ H x y v u Q I rx ry (h wx wy mem loc H x y w mem' Q rs r1 r2 e q)
theorem callR_of {X : Cx} {g : Value} {r : List V → Hp → VK → Prop} {f : OpN} (ho : CallR X g r) (h : ∀ ws mem loc H xs w mem' (Q : VK), Rs X.K mem loc H → Rvs X.K loc H ws xs → f ws mem = some (w, mem') → okQ X.K loc H Q w mem' → r xs H Q) : CallR X g (caP X.K f) :=
  fun pins s σ H xs us Q I rx q => by
    obtain ⟨ws, mem, loc, rs, r1, w, mem', e, q⟩ := q
    exact ho pins s σ H xs us Q I rx (h ws mem loc H xs w mem' Q rs r1 e q)
theorem unR_of {X : Cx} {g : Value → Sem Value} {r : V → Hp → VK → Prop} {f : Op1} (ho : UnR X g r) (h : ∀ wx mem loc H x w mem' (Q : VK), Rs X.K mem loc H → Rv X.K loc H wx x → f wx mem = some (w, mem') → okQ X.K loc H Q w mem' → r x H Q) : UnR X g (unP X.K f) :=
  fun pins s σ H x v Q I rx q => by
    obtain ⟨wx, mem, loc, rs, r1, w, mem', e, q⟩ := q
    exact ho pins s σ H x v Q I rx (h wx mem loc H x w mem' Q rs r1 e q)
theorem ixR_of {X : Cx} {r : R2} {f : Op2} (ho : IxR X r) (h : ∀ wx wy mem loc H x y w mem' (Q : VK), Rs X.K mem loc H → Rv X.K loc H wx x → Rv X.K loc H wy y → f wx wy mem = some (w, mem') → okQ X.K loc H Q w mem' → r x y H Q) : IxR X (opP X.K f) :=
  fun value slice pins s σ H x y v u Q I rx ry q hs => by
    obtain ⟨wx, wy, mem, loc, rs, r1, r2, w, mem', e, q⟩ := q
    exact ho value slice pins s σ H x y v u Q I rx ry (h wx wy mem loc H x y w mem' Q rs r1 r2 e q) hs
/-- two ints, under C -/
def iiV (C : Int → Int → Bool) (g : Int → Int → W) : Op2 := fun x y mem => match x, y with
  | .int i, .int j => if C i j = true then some (g i j, mem) else none
  | _, _ => none
theorem iiV_ok {C : Int → Int → Bool} {g : Int → Int → W} {wx wy w : W} {mem mem' : Mem} (h : iiV C g wx wy mem = some (w, mem')) : ∃ i j, wx = .int i ∧ wy = .int j ∧ C i j = true ∧ w = g i j ∧ mem' = mem := by
  unfold iiV at h
  split at h
  · rename_i i j
    by_cases hc : C i j = true
    · rw [if_pos hc] at h
      cases h
      exact ⟨i, j, rfl, rfl, hc, rfl, rfl⟩
    · rw [if_neg hc] at h
      cases h
  · cases h
section
variable {X : Cx}
def subV : Op2 := iiV (fun _ _ => true) fun i j => .int (i - j)
def mulV : Op2 := iiV (fun i j => (decide (-(2 ^ 64) < i) && decide (i < 2 ^ 64)) || (decide (-(2 ^ 64) < j) && decide (j < 2 ^ 64))) fun i j => .int (i * j)
def modV : Op2 := iiV (fun _ j => decide (0 < j)) fun i j => .int (i % j)
def fdivV : Op2 := iiV (fun _ j => decide (0 < j) && decide (j < 1073741824)) fun i j => .int (i / j)
def powV : Op2 := iiV (fun i j => decide (0 ≤ j) && decide (j ≤ 1000000) && decide (i.natAbs < 2 ^ 64)) fun i j => .int (i ^ j.toNat)
def ltV : Op2 := iiV (fun _ _ => true) fun i j => .bl (decide (i < j))
def leV : Op2 := iiV (fun _ _ => true) fun i j => .bl (decide (i ≤ j))
def gtV : Op2 := iiV (fun _ _ => true) fun i j => .bl (decide (j < i))
def geV : Op2 := iiV (fun _ _ => true) fun i j => .bl (decide (j ≤ i))
theorem rI0_of {C : Int → Int → Bool} {g : Int → Int → W} {g' : Int → Int → V} {op : Value → Value → Sem Value} (ho : OpR X op (rI0 g')) (hg : ∀ i j, isFlat (g i j) = true ∧ flatW (g i j) = g' i j) : OpR X op (opP X.K (iiV C g)) :=
  opR_of ho fun wx wy mem loc H x y w mem' Q rs r1 r2 e q => by
    obtain ⟨i, j, rfl, rfl, hc, rfl, rfl⟩ := iiV_ok e
    cases r1
    cases r2
    refine ⟨i, j, rfl, rfl, ?_⟩
    rw [← (hg i j).2]
    exact q.flat rs (hg i j).1
theorem rI_of {C : Int → Int → Bool} {C' : Int → Int → Prop} {g : Int → Int → W} {g' : Int → Int → V} {op : Value → Value → Sem Value} (ho : OpR X op (rI C' g')) (hC : ∀ i j, C i j = true → C' i j) (hg : ∀ i j, isFlat (g i j) = true ∧ flatW (g i j) = g' i j) : OpR X op (opP X.K (iiV C g)) :=
  opR_of ho fun wx wy mem loc H x y w mem' Q rs r1 r2 e q => by
    obtain ⟨i, j, rfl, rfl, hc, rfl, rfl⟩ := iiV_ok e
    cases r1
    cases r2
    refine ⟨i, j, rfl, rfl, hC i j hc, ?_⟩
    rw [← (hg i j).2]
    exact q.flat rs (hg i j).1
theorem o_sub : OpR X (binaryOp .Sub) (opP X.K subV) := rI0_of op_sub fun _ _ => ⟨rfl, rfl⟩
theorem o_mul : OpR X (binaryOp .Mult) (opP X.K mulV) := rI_of op_mul (fun i j h => by
  simp only [Bool.or_eq_true, Bool.and_eq_true, decide_eq_true_eq] at h
  exact h) fun _ _ => ⟨rfl, rfl⟩
theorem o_mod : OpR X (binaryOp .Mod) (opP X.K modV) := rI_of op_mod (fun i j h => of_decide_eq_true h) fun _ _ => ⟨rfl, rfl⟩
theorem o_fdiv : OpR X (binaryOp .FloorDiv) (opP X.K fdivV) := rI_of op_fdiv (fun i j h => by
  simp only [Bool.and_eq_true,
          decide_eq_true_eq] at h
  exact h) fun _ _ => ⟨rfl, rfl⟩
theorem o_pow : OpR X (binaryOp .Pow) (opP X.K powV) := rI_of op_pow (fun i j h => by
  simp only [Bool.and_eq_true,
          decide_eq_true_eq] at h
  exact ⟨h.1.1, h.1.2, h.2⟩) fun _ _ => ⟨rfl, rfl⟩
theorem o_lt : OpR X (compareOp .Lt) (opP X.K ltV) := rI0_of op_lt fun _ _ => ⟨rfl, rfl⟩
theorem o_le : OpR X (compareOp .LtE) (opP X.K leV) := rI0_of op_le fun _ _ => ⟨rfl, rfl⟩
theorem o_gt : OpR X (compareOp .Gt) (opP X.K gtV) := rI0_of op_gt fun _ _ => ⟨rfl, rfl⟩
theorem o_ge : OpR X (compareOp .GtE) (opP X.K geV) := rI0_of op_ge fun _ _ => ⟨rfl, rfl⟩
def negV : Op1 := fun x mem => match x with
  | .int i => some (.int (-i), mem)
  | _ => none
theorem o_neg : UnR X (unaryOp .USub) (unP X.K negV) := unR_of un_neg fun wx mem loc H x w mem' Q rs r1 e q => by
  cases wx with
  | int i => cases e; cases r1; exact ⟨i, rfl, q.flat rs rfl⟩
  | _ => cases e
/-! ### + -/
def addV : Op2 := fun x y mem => match x, y with
  | .int i, .int j => some (.int (i + j), mem)
  | .str a, .str b => if a.length + b.length ≤ sizeLine then some (.str (a ++ b), mem) else none
  | .tup xs, .tup ys => if xs.length + ys.length ≤ sizeLine then some (.tup (xs ++ ys), mem) else none
  | .loc a, .loc b => match listAt mem a, listAt mem b with
    | some xs, some ys => if xs.length + ys.length ≤ sizeLine then some (.loc mem.length, mem ++ [.lst (xs ++ ys)]) else none
    | _, _ => none
  | _, _ => none
theorem o_add : OpR X (binaryOp .Add) (opP X.K addV) := by
  refine opR_of (op_add.or (op_add_str.or (op_catA.or op_cat))) fun wx wy mem loc H x y w mem' Q rs r1 r2 e q => ?_
  unfold addV at e
  split at e
  · cases e; cases r1; cases r2
    exact .inl ⟨_, _, rfl, rfl, q.flat rs rfl⟩
  · rename_i a b
    by_cases hz : a.length + b.length ≤ sizeLine
    · rw [if_pos hz] at e
      cases e; cases r1; cases r2
      exact .inr (.inl ⟨_, _, rfl, rfl, hz, q.flat rs rfl⟩)
    · rw [if_neg hz] at e; cases e
  · rename_i xs ys
    by_cases hz : xs.length + ys.length ≤ sizeLine
    · rw [if_pos hz] at e
      cases e
      cases r1 with
      | @tup _ a vs h1 h2 =>
        cases r2 with
        | @tup _ b us h3 h4 =>
          refine .inr (.inr (.inl ⟨a, b, vs, us, rfl, rfl, h1, h3, by rw [← h2.length, ← h4.length]; exact hz, fun hn => ?_, fun _ hn => ?_, fun _ _ p hp => ?_⟩))
          · subst hn
            cases h2
            exact q _ H loc Ext.refl rs (.tup h3 h4)
          · subst hn
            cases h4
            rw [List.append_nil] at q
            exact q _ H loc Ext.refl rs (.tup h1 h2)
          · exact q _ _ loc (Ext.new hp) (rs.grow hp) (.tup (SqT.of upd_same) ((h2.append h4).mono (Ext.new hp)))
    · rw [if_neg hz] at e; cases e
  · rename_i a b
    cases ea : listAt mem a with
    | none => rw [ea] at e; cases e
    | some xs =>
      cases eb : listAt mem b with
      | none => rw [ea, eb] at e; cases e
      | some ys =>
        rw [ea, eb] at e
        dsimp only at e
        by_cases hz : xs.length + ys.length ≤ sizeLine
        · rw [if_pos hz] at e
          cases e
          cases r1 with
          | @loc _ p h1 =>
            cases r2 with
            | @loc _ p' h2 =>
              obtain ⟨vs, h3, h4⟩ := rs_list rs ea h1
              obtain ⟨us, h5, h6⟩ := rs_list rs eb h2
              refine .inr (.inr (.inr ⟨p, p', vs, us, rfl, rfl, h3, h5, by rw [← h4.length, ← h6.length]; exact hz, fun n hn => ?_⟩))
              obtain ⟨r1, r2⟩ := rs_newlist rs (h4.append h6) hn
              exact q _ _ _ (Ext.alloc hn) r1 r2
        · rw [if_neg hz] at e; cases e
  · cases e

/-! ### data -/
/-- a value as data, lists read where they stand; n: how deep -/
def toN (mem : Mem) : Nat → W → Option PyData
  | 0, _ => none
  | n + 1, w => match w with
    | .non => some .none
    | .bl b => some (.bool b)
    | .int i => some (.int i)
    | .str x => some (.str x)
    | .tup xs => (xs.mapM (toN mem n)).map .tuple
    | .rol xs => (xs.mapM (toN mem n)).map .list
    | .loc i => (listAt mem i).bind fun xs => (xs.mapM (toN mem n)).map .list
    | .ty _ => none
    | .ob _ => none
abbrev toM (mem : Mem) (w : W) : Option PyData := toN mem 65 w
theorem mapM_cons_some {α β : Type} {f : α → Option β} {x : α} {xs : List α} {ds : List β} (h : (x :: xs).mapM f = some ds) : ∃ d r, f x = some d ∧ xs.mapM f = some r ∧ ds = d :: r := by
  simp only [List.mapM_cons, Option.bind_eq_bind, Option.pure_def] at h
  cases h1 : f x with
  | none => rw [h1]
          at h; cases h
  | some d =>
    rw [h1] at h
    cases h2 : xs.mapM f with
    | none => rw [h2] at h; cases h
    | some r =>
      rw [h2] at h
      cases h
      exact ⟨d, r, rfl, rfl, rfl⟩
theorem rvs_dpN {K : PySem.W.Frag} {mem : Mem} {loc : Locs} {H : Hp} {n : Nat} (ih : ∀ (w : W) (v : V) (d : PyData), Rv K loc H w v → toN mem n w = some d → Dp K H v d) :
    ∀ {ws : List W} {vs : List V} {ds : List PyData}, Rvs K loc H ws vs → ws.mapM (toN mem n) = some ds → DpAll K H vs ds
  | _, _, ds, .nil, e => by simp at e; subst e; exact .nil
  | _, _, ds, .cons r t, e => by
    obtain ⟨d, r', h1, h2, rfl⟩ := mapM_cons_some e
    exact .cons (ih _ _ _ r h1) (rvs_dpN ih t h2)
theorem rv_dpN {K : PySem.W.Frag} {mem : Mem} {loc : Locs} {H : Hp} (rs : Rs K mem loc H) : ∀ (n : Nat) (w : W) (v : V) (d : PyData), Rv K loc H w v → toN mem n w = some d → Dp K H v d := by
  intro n
  induction n with
  | zero => intro w v d r e; cases e
  | succ n ih =>
    intro w v d r e
    unfold toN at e
    cases r with
    | non => cases e; exact .non
    | bl b => cases e; exact .bl b
    | int b => cases e; exact .int b
    | str b => cases e; exact .str b
    | ty b => cases e
    | ob b => cases e
    | @tup ws a vs h r =>
      dsimp only at e
      cases h1 : ws.mapM (toN mem n) with
      | none => rw [h1] at e; cases e
      | some ds => rw [h1] at e; cases e; exact .tup h (rvs_dpN ih r h1)
    | @rol ws a vs h r =>
      dsimp only at e
      cases h1 : ws.mapM (toN mem n) with
      | none => rw [h1] at e; cases e
      | some ds => rw [h1] at e; cases e; exact .lst h.sq (rvs_dpN ih r h1)
    | @loc i a h =>
      dsimp only at e
      cases el : listAt mem i with
      | none => rw [el] at e; cases e
      | some xs =>
        rw [el] at e
        dsimp only [Option.bind] at e
        cases h1 : xs.mapM (toN mem n) with
        | none => rw [h1] at e; cases e
        | some ds =>
          rw [h1] at e
          cases e
          obtain ⟨vs, h2, h3⟩ := rs_list rs el h
          exact .lst (SqL.of h2) (rvs_dpN ih h3 h1)
theorem rvm_dp {K : PySem.W.Frag} {mem : Mem} {loc : Locs} {H : Hp} {w : W} {v : V} {d : PyData} (rs : Rs K mem loc H) (r : Rv K loc H w v) (e : toM mem w = some d) : Dp K H v d := rv_dpN rs 65 w v d r e
def eqvM (mem : Mem) (x y : W) : Option Bool := match toM mem x, toM mem y with
  | some d, some e => if (SeqAt.shaped d && SeqAt.shaped e) = true then some (PyData.eqv d e) else none
  | _, _ => none
def eqV : Op2 := fun x y mem => (eqvM mem x y).map fun b => (.bl b, mem)
def neV : Op2 := fun x y mem => (eqvM mem x y).map fun b => (.bl (!b), mem)
theorem eqvM_ok {mem : Mem} {x y : W} {b : Bool} (h : eqvM mem x y = some b) : ∃ d e, toM mem x = some d ∧ toM mem y = some e ∧ SeqAt.shaped d = true ∧ SeqAt.shaped e = true ∧ b = PyData.eqv d e := by
  unfold eqvM at h
  split at h
  · rename_i d e h1 h2
    by_cases hs : (SeqAt.shaped d && SeqAt.shaped e) = true
    · rw [if_pos hs] at h
      cases h
      exact ⟨d, e, h1, h2, (Bool.and_eq_true_iff.mp hs).1, (Bool.and_eq_true_iff.mp hs).2, rfl⟩
    · rw [if_neg hs]
            at h; cases h
  · cases h
theorem o_eq (hu : X.A.units + 64 < cLine) : OpR X (compareOp .Eq) (opP X.K eqV) := opR_of (op_eqD hu) fun wx wy mem loc H x y w mem' Q rs r1 r2 e q => by
  unfold eqV at e
  cases h : eqvM mem wx wy with
  | none => rw [h] at e; cases e
  | some b =>
    rw [h] at e
    cases e
    obtain ⟨d, e, h1, h2, s1, s2, rfl⟩ := eqvM_ok h
    exact ⟨d, e, rvm_dp rs r1 h1, rvm_dp rs r2 h2, s1, s2, q.flat rs rfl⟩
theorem o_ne (hu : X.A.units + 64 < cLine) : OpR X (compareOp .NotEq) (opP X.K neV) := opR_of (op_neD hu) fun wx wy mem loc H x y w mem' Q rs r1 r2 e q => by
  unfold neV at e
  cases h : eqvM mem wx wy with
  | none => rw [h] at e; cases e
  | some b =>
    rw [h] at e
    cases e
    obtain ⟨d, e, h1, h2, s1, s2, rfl⟩ := eqvM_ok h
    exact ⟨d, e, rvm_dp rs r1 h1, rvm_dp rs r2 h2, s1, s2, q.flat rs rfl⟩
/-! is None -/
def isNone : W → Bool
  | .non => true
  | _ => false
def isV : Op2 := fun x y mem => match y with
  | .non => some (.bl (isNone x), mem)
  | _ => none
def notV2 : Op2 := fun x y mem => match y with
  | .non => some (.bl (!isNone x), mem)
  | _ => none
theorem isNone_rv {K : PySem.W.Frag} {loc : Locs} {H : Hp} {w : W} {v : V} (r : Rv K loc H w v) : isNone w = decide (v = .non) := by
  cases r <;> rfl
theorem o_is : OpR X (compareOp .Is) (opP X.K isV) := opR_of op_isN fun wx wy mem loc H x y w mem' Q rs r1 r2 e q => by
  cases wy with
  | non => cases e; cases r2; refine ⟨rfl, ?_⟩; rw [← isNone_rv r1]; exact q.flat rs rfl
  | _ => cases e
theorem o_isnot : OpR X (compareOp .IsNot) (opP X.K notV2) := opR_of op_notN fun wx wy mem loc H x y w mem' Q rs r1 r2 e q => by
  cases wy with
  | non => cases e; cases r2; refine ⟨rfl, ?_⟩; rw [← isNone_rv r1]; exact q.flat rs rfl
  | _ => cases e
end
end Sh
set_option linter.all false
set_option maxRecDepth 100000
set_option
        maxHeartbeats 4000000
/-! Sh5: containers: in, items, slices, len, list, tuple, int, str, isinstance, the methods of lists. -/
namespace Sh
open PySem PySem.Spec
        PyProof.Rows L2

/-! ### in -/
def itemsOf (mem : Mem) : W → Option (List W)
  | .tup xs => some xs
  | .rol xs => some xs
  | .loc n => listAt mem n
  | _ => none
def isSeqD : PyData → Option (List PyData)
  | .list ds => some ds
  | .tuple ds => some ds
  | _ => none
/-- x in y: y a list or a tuple of data -/
def inD (mem : Mem) (x y : W) : Option Bool := match toM mem x, (toM mem y).bind fun d => (isSeqD d).map fun ds => (d, ds) with
  | some d, some (e, ds) => if (SeqAt.shaped d && SeqAt.shaped e) = true then some (ds.any fun z => PyData.eqv z d) else none
  | _, _ => none
def inV2 : Op2 := fun x y mem => (inD mem x y).map fun b => (.bl b, mem)
def notInV : Op2 := fun x y mem => (inD mem x y).map fun b => (.bl (!b), mem)
theorem room_in {A : Around} {d : PyData} {ds : List PyData} (h : SeqAt.shaped d = true) (hu : A.units + 65 < cLine) : A.units + 1 + min (PyData.depthAll ds) d.depth < cLine := by
  have h1 := SeqAt.depth_of_shaped h
  have h2 : min (PyData.depthAll ds) d.depth ≤ d.depth := Nat.min_le_right _ _
  omega
theorem inD_ok {mem : Mem} {x y : W} {b : Bool} (h : inD mem x y = some b) : ∃ d e ds, toM mem x = some d ∧ toM mem y = some e ∧ isSeqD e = some ds ∧ SeqAt.shaped d = true ∧ SeqAt.shaped e = true ∧ b = ds.any fun z => PyData.eqv z d := by
  unfold inD at h
  split at h
  · rename_i d e ds h1 h2
    cases h3 : toM mem y with
    | none => rw [h3] at h2; cases h2
    | some e' =>
      rw [h3] at h2
      dsimp only [Option.bind] at h2
      cases h4 : isSeqD e' with
      | none => rw [h4] at h2; cases h2
      | some ds' =>
        rw [h4] at h2
        cases h2
        by_cases hs : (SeqAt.shaped d && SeqAt.shaped e) = true
        · rw [if_pos hs] at h
          cases h
          exact ⟨d, e, ds, h1, rfl, h4, (Bool.and_eq_true_iff.mp hs).1, (Bool.and_eq_true_iff.mp hs).2, rfl⟩
        · rw [if_neg hs]
                at h; cases h
  · cases h
section
variable {X : Cx}
def rInA (K : PySem.W.Frag) (neg : Bool) : R2 := fun x y H Q => ∃ d e ds, Dp K H x d ∧ Dp K H y e ∧ isSeqD e = some ds ∧ SeqAt.shaped d = true ∧ SeqAt.shaped e = true ∧ Q (.bl (if neg then !(ds.any fun z => PyData.eqv z d) else ds.any fun z => PyData.eqv z d)) H
theorem lay_seq {e : PyData} {ds : List PyData} (h : isSeqD e = some ds) (s : SeqAt.shaped e = true) : PyData.canLayAll0 ds = true := by
  have c := SeqAt.canLay_of_shaped s
  cases e with
  | list xs => cases h; unfold PyData.canLay0 at c; exact c
  | tuple xs => cases h; unfold PyData.canLay0 at c; exact c
  | _ => cases h
theorem op_inA (hu : X.A.units + 65 < cLine) : OpR X (compareOp .In) (rInA X.K false) := by
  intro pins s σ H x
          y v u Q I rx ry h
  obtain ⟨d, e, ds, hd, he, hs, sd, se, q⟩ := h
  obtain ⟨as, r1⟩ :=
          Dp.reads I d x v hd rx
  obtain ⟨bs, r2⟩ :=
          Dp.reads I e y u he ry
  cases e with
  | list xs => cases hs; exact SeqAt.in_list_reads r2 r1 (lay_seq rfl se) (SeqAt.canLay_of_shaped sd) (room_in sd hu) ⟨.bl _, H, I, rfl, q⟩
  | tuple xs => cases hs; exact SeqAt.in_tuple_reads r2 r1 (lay_seq rfl se) (SeqAt.canLay_of_shaped sd) (room_in sd hu) ⟨.bl _, H, I, rfl, q⟩
  | _ => cases hs
theorem op_notInA (hu : X.A.units + 65 < cLine) : OpR X (compareOp .NotIn) (rInA X.K true) := by
  intro pins s σ H x
          y v u Q I rx ry h
  obtain ⟨d, e, ds, hd, he, hs, sd, se, q⟩ := h
  obtain ⟨as, r1⟩ :=
          Dp.reads I d x v hd rx
  obtain ⟨bs, r2⟩ :=
          Dp.reads I e y u he ry
  cases e with
  | list xs => cases hs; exact SeqAt.notIn_list_reads r2 r1 (lay_seq rfl se) (SeqAt.canLay_of_shaped sd) (room_in sd hu) ⟨.bl _, H, I, rfl, q⟩
  | tuple xs => cases hs; exact SeqAt.notIn_tuple_reads r2 r1 (lay_seq rfl se) (SeqAt.canLay_of_shaped sd) (room_in sd hu) ⟨.bl _, H, I, rfl, q⟩
  | _ => cases hs
theorem o_in (hu : X.A.units + 65 < cLine) : OpR X (compareOp .In) (opP X.K inV2) := opR_of (op_inA hu) fun wx wy mem loc H x y w mem' Q rs r1 r2 e q => by
  unfold inV2 at e
  cases h : inD mem wx wy with
  | none => rw [h] at e; cases e
  | some b =>
    rw [h] at e
    cases e
    obtain ⟨d, e, ds, h1, h2, h3, s1, s2, rfl⟩ := inD_ok h
    exact ⟨d, e, ds, rvm_dp rs r1 h1, rvm_dp rs r2 h2, h3, s1, s2, q.flat rs rfl⟩
theorem o_notin (hu : X.A.units + 65 < cLine) : OpR X (compareOp .NotIn) (opP X.K notInV) := opR_of (op_notInA hu) fun wx wy mem loc H x y w mem' Q rs r1 r2 e q => by
  unfold notInV at e
  cases h : inD mem wx wy with
  | none => rw [h] at e; cases e
  | some b =>
    rw [h] at e
    cases e
    obtain ⟨d, e, ds, h1, h2, h3, s1, s2, rfl⟩ := inD_ok h
    exact ⟨d, e, ds, rvm_dp rs r1 h1, rvm_dp rs r2 h2, h3, s1, s2, q.flat rs rfl⟩

/-! ### items -/
theorem atI_rv {K : PySem.W.Frag} {loc : Locs} {H : Hp} {ws : List W} {vs : List V} {i : Int} {w : W} (r : Rvs K loc H ws vs) (h : atI ws i = some w) : ∃ v, atI vs i = some v ∧ Rv K loc H w v := by
  unfold atI at h ⊢
  rw [← r.length]
  cases e : ixN ws.length i with
  | none => rw [e]
          at h; cases h
  | some j =>
    rw [e] at h
    exact r.get h
def ixV : Op2 := fun x y mem => match x, y with
  | .str z, .int i => if z.length ≤ sizeLine then (atI z.cps.toList i).map fun c => (.str ⟨#[c]⟩, mem) else none
  | .tup xs, .int i => (atI xs i).map fun w => (w, mem)
  | .rol xs, .int i => (atI xs i).map fun w => (w, mem)
  | .loc n, .int i => (listAt mem n).bind fun xs => (atI xs i).map fun w => (w, mem)
  | _, _ => none
theorem o_ix : IxR X (opP X.K ixV) := ixR_of ix_seq fun wx wy mem loc H x y w mem' Q rs r1 r2 e q => by
  cases r2 with
  | int i =>
    unfold ixV at e
    cases r1 with
    | str z =>
      dsimp only at e
      by_cases hz : z.length ≤ sizeLine
      · rw [if_pos hz] at e
        cases h : atI z.cps.toList i with
        | none => rw [h] at e; cases e
        | some c => rw [h] at e; cases e; exact .inr (.inr ⟨z, i, c, rfl, rfl, hz, h, q.flat rs rfl⟩)
      · rw [if_neg hz] at e; cases e
    | @tup xs a vs h1 h2 =>
      dsimp only at e
      cases h : atI xs i with
      | none => rw [h] at e; cases e
      | some z =>
        rw [h] at e
        cases e
        obtain ⟨v, hv, rv⟩ := atI_rv h2 h
        exact .inr (.inl ⟨a, vs, i, v, rfl, rfl, h1, hv, q v H loc Ext.refl rs rv⟩)
    | @rol xs a vs h1 h2 =>
      dsimp only at e
      cases h : atI xs i with
      | none => rw [h] at e; cases e
      | some z =>
        rw [h] at e
        cases e
        obtain ⟨v, hv, rv⟩ := atI_rv h2 h
        exact .inl ⟨a, vs, i, v, rfl, rfl, h1.sq, hv, q v H loc Ext.refl rs rv⟩
    | @loc n a h1 =>
      dsimp only at e
      cases hl : listAt mem n with
      | none => rw [hl] at e; cases e
      | some xs =>
        rw [hl] at e
        dsimp only [Option.bind] at e
        cases h : atI xs i with
        | none => rw [h] at e; cases e
        | some z =>
          rw [h] at e
          cases e
          obtain ⟨vs, h2, h3⟩ := rs_list rs hl h1
          obtain ⟨v, hv, rv⟩ := atI_rv h3 h
          exact .inl ⟨a, vs, i, v, rfl, rfl, SqL.of h2, hv, q v H loc Ext.refl rs rv⟩
    | _ => cases e
  | _ => cases wx <;> cases e

/-! ### slices -/
def cutW (xs : List W) (lo hi : Option Int) : List W := (xs.drop (HT.sIx xs.length 0 lo)).take (HT.sIx xs.length xs.length hi - HT.sIx xs.length 0 lo)
theorem cut_rv {K : PySem.W.Frag} {loc : Locs} {H : Hp} {ws : List W} {vs : List V} (r : Rvs K loc H ws vs) (lo hi : Option Int) : Rvs K loc H (cutW ws lo hi) (cutV vs lo hi) := by
  unfold cutW cutV
  rw [r.length]
  exact (r.drop _).take _
def slV (lo hi : Option Int) : Op1 := fun x mem => match x with
  | .tup xs => some (.tup (cutW xs lo hi), mem)
  | .rol xs => some (.loc mem.length, mem ++ [.lst (cutW xs lo hi)])
  | .loc n => (listAt mem n).map fun xs => (.loc mem.length, mem ++ [.lst (cutW xs lo hi)])
  | .str z => if z.length ≤ sizeLine then some (.str (cutS z lo hi), mem) else none
  | _ => none
def optE : Option EM → VEnv → SM (Option Int)
  | none => fun _ => SM.pure none
  | some m => fun env => SM.bind (m env) fun w => match w with
    | .int i => SM.pure (some i)
    | _ => fun _ => .bad
def sliceE (me : EM) (lo hi : Option EM) : EM := fun env => SM.bind (me env) fun x => SM.bind (optE lo env) fun l => SM.bind (optE hi env) fun h => fun m => lift (slV l h x m)
def denO2 (K : PySem.W.Frag) (W' : WX) (m : VEnv → SM (Option Int)) : TO := fun σ H Q => ∃ env mem loc, REnv K loc H env σ ∧ Rs K mem loc H ∧ (m env mem).Post (fun o mem' => ∀ H' loc', Ext loc H loc' H' → Rs K mem' loc' H' → Q o H') (exQ K W' σ loc H)
def SOp (X : Cx) (W' : WX) (e : Option Expr) (m : Option EM) : Prop := PO X e (denO2 X.K W' (optE m))
theorem po_imp {e : Option Expr} {t t' : TO} (h : PO X e t) (i : ∀ σ H Q, t' σ H Q → t σ H Q) : PO X e t' := ⟨fun pins s σ H Q I q => h.run pins s σ H Q I (i σ H Q q)⟩
variable {W' : WX} {pos p2 : Pos} {e : Expr} {me : EM}
theorem sp_none : SOp X W' none none := po_imp po_none fun σ H Q ⟨env, mem, loc, re, rs, h⟩ => h H loc Ext.refl rs
theorem sp_some (h : SE X W' e me) : SOp X W' (some e) (some me) := po_imp (po_some h) fun σ H Q ⟨env, mem, loc, re, rs, h⟩ => by
  refine denE_then (k := fun env w => match w with | .int i => SM.pure (some i) | _ => fun _ => .bad) re rs h fun w mem1 v H1 loc1 e1 rs1 rv1 re1 h1 => ?_
  cases w with
  | int i => cases rv1; exact ⟨i, rfl, h1 H1 loc1 e1 rs1⟩
  | _ => exact h1.elim
def rSl3 (K : PySem.W.Frag) : V → Option Int → Option Int → Hp → VK → Prop := fun x lo hi H Q => rSlA K x lo hi H Q ∨ (rSlL K x lo hi H Q ∨ rSlS x lo hi H Q)
theorem cutV_whole {xs : List W} {lo hi : Option Int} (h : HT.sIx xs.length 0 lo = 0 ∧ HT.sIx xs.length xs.length hi = xs.length) : cutW xs lo hi = xs := by
  unfold cutW
  rw [h.1, h.2, List.drop_zero, Nat.sub_zero, List.take_length]
theorem sl_post {K : PySem.W.Frag} {mem mem' : Mem} {loc : Locs} {H : Hp} {lo hi : Option Int} {wx w : W} {x : V} {Q : VK} (rs : Rs K mem loc H) (r1 : Rv K loc H wx x) (e : slV lo hi wx mem = some (w, mem')) (q : okQ K loc H Q w mem') : rSl3 K x lo hi H Q := by
  cases r1 with
  | @tup xs a vs h1 h2 =>
    cases e
    refine .inl ⟨a, vs, rfl, h1, fun hw => ?_, fun hw p hp => ?_⟩
    · rw [← h2.length] at hw
      rw [cutV_whole hw] at q
      exact q _ H loc Ext.refl rs (.tup h1 h2)
    · exact q _ _ loc (Ext.new hp) (rs.grow hp) (.tup (SqT.of upd_same) ((cut_rv h2 lo hi).mono (Ext.new hp)))
  | @rol xs a vs h1 h2 =>
    cases e
    refine .inr (.inl ⟨a, vs, rfl, h1.sq, fun p hp => ?_⟩)
    obtain ⟨r1, r2⟩ := rs_newlist rs (cut_rv h2 lo hi) hp
    exact q _ _ _ (Ext.alloc hp) r1 r2
  | @loc n a h1 =>
    unfold slV at e
    dsimp only at e
    cases hl : listAt mem n with
    | none => rw [hl] at e; cases e
    | some xs =>
      rw [hl] at e
      cases e
      obtain ⟨vs, h2, h3⟩ := rs_list rs hl h1
      refine .inr (.inl ⟨a, vs, rfl, SqL.of h2, fun p hp => ?_⟩)
      obtain ⟨r1, r2⟩ := rs_newlist rs (cut_rv h3 lo hi) hp
      exact q _ _ _ (Ext.alloc hp) r1 r2
  | str z =>
    unfold slV at e
    dsimp only at e
    by_cases hz : z.length ≤ sizeLine
    · rw [if_pos hz] at e
      cases e
      exact .inr (.inr ⟨z, rfl, hz, q.flat rs rfl⟩)
    · rw [if_neg hz] at e; cases e
  | _ => cases e
theorem se_slice {lo hi : Option Expr} {ml mh : Option EM} (he : SE X W' e me) (hl : SOp X W' lo ml) (hu : SOp X W' hi mh) : SE X W' (.Subscript e (.Slice lo hi none p2) pos) (sliceE me ml mh) := by
  refine pe_imp (pe_slice (sl_tupA.or (sl_list.or sl_str)) he hl hu) fun σ H Q ⟨env, mem, loc, re, rs, h⟩ => ?_
  refine denE_then (k := fun env x => SM.bind (optE ml env) fun l => SM.bind (optE mh env) fun h => fun m => lift (slV l h x m)) re rs h fun x mem1 v H1 loc1 e1 rs1 rv1 re1 h1 => ?_
  refine ⟨env, mem1, loc1, re1, rs1, (post_bind h1).imp (fun l mem2 h2 H2 loc2 e2 rs2 => ?_) fun _ _ z => z⟩
  refine ⟨env, mem2, loc2, re1.mono e2, rs2, (post_bind h2).imp (fun u mem3 h3 H3 loc3 e3 rs3 => ?_) fun _ _ z => z.mono e2⟩
  obtain ⟨w, mem', e, q⟩ := post_lift h3
  exact sl_post rs3 (rv1.mono (e2.trans e3)) e (q.mono ((e1.trans e2).trans e3))

/-! ### len, list, tuple, int, str -/
def lenV : OpN := fun ws mem => match ws with
  | [.str z] => if z.length ≤ sizeLine then some (.int z.length, mem) else none
  | [.tup xs] => some (.int xs.length, mem)
  | [.rol xs] => some (.int xs.length, mem)
  | [.loc n] => (listAt mem n).map fun xs => (.int xs.length, mem)
  | _ => none
theorem items_rv {K : PySem.W.Frag} {mem : Mem} {loc : Locs} {H : Hp} {w : W} {x : V} {xs : List W} (rs : Rs K mem loc H) (r : Rv K loc H w x) (h : itemsOf mem w = some xs) : ∃ a vs, x = .ref a ∧ (SqL K H a vs ∨ SqT K H a vs) ∧ Rvs K loc H xs vs := by
  cases r with
  | @tup _ a vs h1 h2 => cases h; exact ⟨a, vs, rfl, .inr h1, h2⟩
  | @rol _ a vs h1 h2 => cases h; exact ⟨a, vs, rfl, .inl h1.sq, h2⟩
  | @loc n a h1 =>
    obtain ⟨vs, h2, h3⟩ := rs_list rs h h1
    exact ⟨a, vs, rfl, .inl (SqL.of h2), h3⟩
  | _ => cases h
theorem c_len : CallR X (.builtin "len") (caP X.K lenV) := callR_of call_len fun ws mem loc H xs w mem' Q rs rv e q => by
  cases rv with
  | nil => cases e
  | @cons w0 v ws vs r1 r2 =>
    cases r2 with
    | cons _ _ => cases w0 <;> cases e
    | nil =>
      cases r1 with
      | str z =>
        unfold lenV at e
        dsimp only at e
        by_cases hz : z.length ≤ sizeLine
        · rw [if_pos hz] at e
          cases e
          exact ⟨_, z.length, rfl, ⟨hz, rfl⟩, q.flat rs rfl⟩
        · rw [if_neg hz] at e; cases e
      | @tup xs a vs h1 h2 => cases e; exact ⟨_, xs.length, rfl, .inr ⟨vs, h1, h2.length⟩, q.flat rs rfl⟩
      | @rol xs a vs h1 h2 => cases e; exact ⟨_, xs.length, rfl, .inl ⟨vs, h1.sq, h2.length⟩, q.flat rs rfl⟩
      | @loc n a h1 =>
        unfold lenV at e
        dsimp only at e
        cases hl : listAt mem n with
        | none => rw [hl] at e; cases e
        | some xs =>
          rw [hl] at e
          cases e
          obtain ⟨vs, h2, h3⟩ := rs_list rs hl h1
          exact ⟨_, xs.length, rfl, .inl ⟨vs, SqL.of h2, h3.length⟩, q.flat rs rfl⟩
      | _ => cases e
def tupleV : OpN := fun ws mem => match ws with
  | [w] => (itemsOf mem w).map fun xs => (.tup xs, mem)
  | _ => none
theorem c_tuple : CallR X (.type "tuple") (caP X.K tupleV) := callR_of call_tuple_of fun ws mem loc H xs w mem' Q rs rv e q => by
  cases rv with
  | nil => cases e
  | @cons w0 v ws vs r1 r2 =>
    cases r2 with
    | cons _ _ => cases w0 <;> cases e
    | nil =>
      cases r1 with
      | @tup xs a vs h1 h2 => cases e; exact ⟨a, vs, rfl, .inr ⟨h1, q _ H loc Ext.refl rs (.tup h1 h2)⟩⟩
      | @rol xs a vs h1 h2 => cases e; exact ⟨a, vs, rfl, .inl ⟨h1.sq, fun l hl => q _ _ loc (Ext.new hl) (rs.grow hl) (.tup (SqT.of upd_same) (h2.mono (Ext.new hl)))⟩⟩
      | @loc n a h1 =>
        unfold tupleV itemsOf at e
        dsimp only at e
        cases hl : listAt mem n with
        | none => rw [hl] at e; cases e
        | some xs =>
          rw [hl] at e
          cases e
          obtain ⟨vs, h2, h3⟩ := rs_list rs hl h1
          exact ⟨a, vs, rfl, .inl ⟨SqL.of h2, fun l hl => q _ _ loc (Ext.new hl) (rs.grow hl) (.tup (SqT.of upd_same) (h3.mono (Ext.new hl)))⟩⟩
      | _ => cases e
def listV : OpN := fun ws mem => match ws with
  | [w] => (itemsOf mem w).map fun xs => (.loc mem.length, mem ++ [.lst xs])
  | _ => none
theorem c_list : CallR X (.type "list") (caP X.K listV) := callR_of call_list_of fun ws mem loc H xs w mem' Q rs rv e q => by
  cases rv with
  | nil => cases e
  | @cons w0 v ws vs r1 r2 =>
    cases r2 with
    | cons _ _ => cases w0 <;> cases e
    | nil =>
      unfold listV at e
      dsimp only at e
      cases hi : itemsOf mem w0 with
      | none => rw [hi] at e; cases e
      | some xs =>
        rw [hi] at e
        cases e
        obtain ⟨a, us, rfl, h1, h2⟩ := items_rv rs r1 hi
        refine ⟨a, us, rfl, h1, fun l hl => ?_⟩
        obtain ⟨r1, r2⟩ := rs_newlist rs h2 hl
        exact q _ _ _ (Ext.alloc hl) r1 r2
def intV : OpN := fun ws mem => match ws with
  | [.int i] => some (.int i, mem)
  | [.bl b] => some (.int (if b then 1 else 0), mem)
  | [.str z] => if z.length ≤ 640 then (PySem.intText? z).map fun n => (.int n, mem) else none
  | _ => none
theorem CallR.or {f : Value} {r r' : List V → Hp → VK → Prop} (h : CallR X f r) (h' : CallR X f r') : CallR X f (fun xs H Q => r xs H Q ∨ r' xs H Q) :=
  fun pins s σ H xs us Q I rv q => q.elim (h pins s σ H xs us Q I rv) (h' pins s σ H xs us Q I rv)
theorem c_int : CallR X (.type "int") (caP X.K intV) := callR_of (CallR.or call_int1 call_int_str) fun ws mem loc H xs w mem' Q rs rv e q => by
  cases rv with
  | nil => cases e
  | @cons w0 v ws vs r1 r2 =>
    cases r2 with
    | cons _ _ => cases w0 <;> cases e
    | nil =>
      cases r1 with
      | int i => cases e; exact .inl (.inl ⟨i, rfl, q.flat rs rfl⟩)
      | bl b => cases e; exact .inl (.inr ⟨b, rfl, q.flat rs rfl⟩)
      | str z =>
        unfold intV at e
        dsimp only at e
        by_cases hz : z.length ≤ 640
        · rw [if_pos hz] at e
          cases hn : PySem.intText? z with
          | none => rw [hn] at e; cases e
          | some n => rw [hn] at e; cases e; exact .inr ⟨z, n, rfl, hn, hz, q.flat rs rfl⟩
        · rw [if_neg hz] at e; cases e
      | _ => cases e
def strV : OpN := fun ws mem => match ws with
  | [.int i] => if i.natAbs.log2 < 1920 then some (.str (toString i), mem) else none
  | _ => none
theorem c_str : CallR X (.type "str") (caP X.K strV) := callR_of call_str_int fun ws mem loc H xs w mem' Q rs rv e q => by
  cases rv with
  | nil => cases e
  | @cons w0 v ws vs r1 r2 =>
    cases r2 with
    | cons _ _ => cases w0 <;> cases e
    | nil =>
      cases r1 with
      | int i =>
        unfold strV at e
        dsimp only at e
        by_cases hz : i.natAbs.log2 < 1920
        · rw [if_pos hz] at e; cases e; exact ⟨i, rfl, hz, q.flat rs rfl⟩
        · rw [if_neg hz] at e; cases e
      | _ => cases e
def allV : OpN := fun ws mem => match ws with
  | [.loc n] => (listAt mem n).bind fun xs => (xs.mapM isB).map fun bs => (.bl (bs.all id), mem)
  | _ => none
theorem rvs_bls {K : PySem.W.Frag} {loc : Locs} {H : Hp} : ∀ {ws : List W} {vs : List V} {bs : List Bool}, Rvs K loc H ws vs → (ws.mapM isB) = some bs → vs = bs.map V.bl
  | _, _, bs, .nil, e => by simp at e; subst e; rfl
  | _, _, bs, .cons (w := w) (ws := ws) r t, e => by
    cases r with
    | bl b =>
      simp only [List.mapM_cons, Option.bind_eq_bind, isB, Option.bind_some] at e
      cases h : (ws.mapM isB) with
      | none => rw [h] at e; cases e
      | some cs =>
        rw [h] at e
        cases e
        rw [rvs_bls t h]
        rfl
    | _ => simp [List.mapM_cons, isB] at e
theorem c_all (hc : X.calm = true) : CallR X (.builtin "all") (caP X.K allV) := callR_of (cr_all hc) fun ws mem loc H xs w mem' Q rs rv e q => by
  cases rv with
  | nil => cases e
  | @cons w0 v ws vs r1 r2 =>
    cases r2 with
    | cons _ _ => cases w0 <;> cases e
    | nil =>
      cases r1 with
      | @loc n a h1 =>
        unfold allV at e
        dsimp only at e
        cases hl : listAt mem n with
        | none => rw [hl] at e; cases e
        | some xs =>
          rw [hl] at e
          dsimp only [Option.bind] at e
          cases hm : (xs.mapM isB) with
          | none => rw [hm] at e; cases e
          | some bs =>
            rw [hm] at e
            cases e
            obtain ⟨vs, h2, h3⟩ := rs_list rs hl h1
            rw [rvs_bls h3 hm] at h2
            exact ⟨a, bs, rfl, SqL.of h2, q.flat rs rfl⟩
      | _ => cases e
end
end Sh
set_option linter.all false
set_option maxRecDepth 100000
set_option
        maxHeartbeats 4000000
/-! Sh6: methods of lists, stores, isinstance, list(range(..)). -/
namespace Sh
open PySem PySem.Spec
        PyProof.Rows L2

theorem rs_set {K : PySem.W.Frag} {mem : Mem} {loc : Locs} {H : Hp} {n : Nat} {a : Addr} {vs us : List V} {ys : List W} (rs : Rs K mem loc H) (ha : loc[n]? = some a) (h : H a = some (.lst vs)) (r : Rvs K loc H ys us) :
    Rs K (mem.set n (.lst ys)) loc (upd H a (.lst us)) ∧ Ext loc H loc (upd H a (.lst us)) :=
  have ew : Ext loc H loc (upd H a (.lst us)) := Ext.wr h trivial
  ⟨rs.write ha h trivial ⟨us, upd_same, r.mono ew⟩, ew⟩

/-! ### methods -/
abbrev OpM := W → OpN
def chkL (x : W) (m : Mem) : Bool := match x with
  | .loc n => (listAt m n).isSome
  | _ => false
def methE (chk : W → Mem → Bool) (f : OpM) (mo : EM) (as : AM) : EM := fun env => SM.bind (mo env) fun x => fun m => if chk x m = true then (SM.bind (as env) fun xs => fun m => lift (f x xs m)) m else .bad
def mtP (K : PySem.W.Frag) (f : OpM) : V → List V → Hp → VK → Prop := fun x vs H Q => ∃ wx ws mem loc, Rs K mem loc H ∧ Rv K loc H wx x ∧ Rvs K loc H ws vs ∧ ∃ w mem', f wx ws mem = some (w, mem') ∧ okQ K loc H Q w mem'
theorem mtR_of {X : Cx} {id : String} {r : V → List V → Hp → VK → Prop} {f : OpM} (ho : MtR X id r) (h : ∀ wx ws mem loc H x xs w mem' (Q : VK), Rs X.K mem loc H → Rv X.K loc H wx x → Rvs X.K loc H ws xs → f wx ws mem = some (w, mem') → okQ X.K loc H Q w mem' → r x xs H Q) : MtR X id (mtP X.K f) :=
  fun pins s σ H x xs v us Q I rx rv q => by
    obtain ⟨wx, ws, mem, loc, rs, r1, r2, w, mem', e, q⟩ := q
    exact ho pins s σ H x xs v us Q I rx rv (h wx ws mem loc H x xs w mem' Q rs r1 r2 e q)
section
variable {X : Cx} {W' : WX} {o e : Expr} {es : List Expr} {mo : EM} {as : AM} {name : Str} {apos cpos : Pos} {id : String}
theorem se_lm {f : OpM} (slot : Slot "list" name id) (hty : typeOf (.builtin id) = pure (.type "method_descriptor")) (hm : MtR X id (mtP X.K f)) (ho : SE X W' o mo) (ha : SA X W' (e :: es) as)
    (hbase : attributeBase o name X.env
            (eval o X.env) = eval o X.env := by rfl)
    (hfew : ((backTo cpos (starEach (e :: es) X.env)).all (fun x => !x.1)
            && (backToKw cpos (keywordEach [] X.env)).all (fun x => x.1.isSome)
      && decide ((e :: es).length + ([] : List Keyword).length + (if ([]
              : List Keyword).isEmpty then 0 else 1) < 30)) = true := by rfl)
    (hline : (apos.endLine == cpos.line) = true := by rfl) (hs : starEach (e :: es) X.env = (false, eval e X.env)
            :: starEach es X.env := by rfl) (hplain : (backTo cpos (starEach es X.env)).any (·.1) = false := by rfl) :
    SE X W' (.Call (.Attribute o name apos) (e :: es) [] cpos) (methE chkL f mo as) := by
  refine pe_imp (pe_bm PySem.F.plainAttrs_list slot hty hm ho ha hbase hfew hline hs hplain) fun σ H Q ⟨env, mem, loc, re, rs, h⟩ => ?_
  refine denE_then (k := fun env x => fun m => if chkL x m = true then (SM.bind (as env) fun xs => fun m => lift (f x xs m)) m else .bad) re rs h fun x mem1 v H1 loc1 e1 rs1 rv1 re1 h1 => ?_
  by_cases hc : chkL x mem1 = true
  · rw [if_pos hc] at h1
    refine ⟨?_, env, mem1, loc1, re1, rs1, (post_bind h1).imp (fun ws mem2 h2 vs H2 loc2 e2 rs2 rv2 => ?_) fun _ _ z => z⟩
    · cases x with
      | loc n =>
        obtain ⟨xs, hx⟩ := Option.isSome_iff_exists.mp hc
        cases rv1 with
        | @loc _ a h2 =>
          obtain ⟨us, h3, _⟩ := rs_list rs1 hx h2
          exact Or.inl ⟨rfl, us, SqL.of h3⟩
      | _ => cases hc
    · obtain ⟨w, mem', e, q⟩ := post_lift h2
      exact ⟨x, ws, mem2, loc2, rs2, rv1.mono e2, rv2, w, mem', e, q.mono (e1.trans e2)⟩
  · rw [if_neg hc] at h1
    exact h1.elim
def appendV : OpM := fun x ws mem => match x, ws with
  | .loc n, [w] => (listAt mem n).bind fun xs => if xs.length < sizeLine then some (.non, mem.set n (.lst (xs ++ [w]))) else none
  | _, _ => none
theorem m_append : MtR X "list.append" (mtP X.K appendV) := mtR_of mt_append fun wx ws mem loc H x xs w mem' Q rs r1 r2 e q => by
  unfold appendV at e
  split at e
  · rename_i n w0
    cases r1 with
    | @loc _ a h1 =>
      cases r2 with
      | @cons _ v _ _ r3 r4 =>
        cases r4
        cases hl : listAt mem n with
        | none => rw [hl] at e; cases e
        | some ys =>
          rw [hl] at e
          dsimp only [Option.bind] at e
          by_cases hz : ys.length < sizeLine
          · rw [if_pos hz] at e
            cases e
            obtain ⟨vs, h2, h3⟩ := rs_list rs hl h1
            obtain ⟨rs', ew⟩ := rs_set rs h1 h2 (h3.append (.cons r3 .nil))
            exact ⟨a, vs, v, rfl, rfl, h2, by rw [← h3.length]; exact hz, q _ _ _ ew rs' .non⟩
          · rw [if_neg hz] at e; cases e
  · cases e
def popV : OpM := fun x ws mem => match x, ws with
  | .loc n, [.int i] => (listAt mem n).bind fun xs => if xs.length ≤ sizeLine then (ixN xs.length i).bind fun k => (xs[k]?).map fun y => (y, mem.set n (.lst (xs.eraseIdx k))) else none
  | _, _ => none
theorem Rvs.eraseIdx {K : PySem.W.Frag} {loc : Locs} {H : Hp} : ∀ {ws : List W} {vs : List V} (n : Nat), Rvs K loc H ws vs → Rvs K loc H (ws.eraseIdx n) (vs.eraseIdx n)
  | _, _, _, .nil => .nil
  | _, _, 0, .cons _ t => t
  | _, _, n + 1, .cons r t => .cons r (Rvs.eraseIdx n t)
theorem m_pop : MtR X "list.pop" (mtP X.K popV) := mtR_of mt_popAt fun wx ws mem loc H x xs w mem' Q rs r1 r2 e q => by
  unfold popV at e
  split at e
  · rename_i n i
    cases r1 with
    | @loc _ a h1 =>
      cases r2 with
      | @cons _ v _ _ r3 r4 =>
        cases r4
        cases r3
        cases hl : listAt mem n with
        | none => rw [hl] at e; cases e
        | some ys =>
          rw [hl] at e
          dsimp only [Option.bind] at e
          by_cases hz : ys.length ≤ sizeLine
          · rw [if_pos hz] at e
            cases hk : ixN ys.length i with
            | none => rw [hk] at e; cases e
            | some k =>
              rw [hk] at e
              dsimp only at e
              cases hy : ys[k]? with
              | none => rw [hy] at e; cases e
              | some y =>
                rw [hy] at e
                cases e
                obtain ⟨vs, h2, h3⟩ := rs_list rs hl h1
                obtain ⟨v, hv, rv⟩ := h3.get hy
                obtain ⟨s1, s2, s3, s4⟩ := ixN_seq hk
                have hs : sizeLine =
                        16777216 := sizeLine_eq
                obtain ⟨rs', ew⟩ := rs_set rs h1 h2 (h3.eraseIdx k)
                exact ⟨a, vs, i, k, v, rfl, rfl, h2, by omega, by omega, by rw [← h3.length]; exact s1, hv, q _ _ _ ew rs' (rv.mono ew)⟩
          · rw [if_neg hz] at e; cases e
  · cases e
def insertV : OpM := fun x ws mem => match x, ws with
  | .loc n, [.int i, w] => (listAt mem n).bind fun xs => if xs.length < sizeLine ∧ 0 ≤ i ∧ i < 2 ^ 63 then some (.non, mem.set n (.lst (xs.take i.toNat ++ [w] ++ xs.drop i.toNat))) else none
  | _, _ => none
theorem m_insert : MtR X "list.insert" (mtP X.K insertV) := mtR_of mt_insert fun wx ws mem loc H x xs w mem' Q rs r1 r2 e q => by
  unfold insertV at e
  split at e
  · rename_i n i w0
    cases r1 with
    | @loc _ a h1 =>
      cases r2 with
      | @cons _ v _ _ r3 r4 =>
        cases r4 with
        | @cons _ v2 _ _ r5 r6 =>
          cases r6
          cases r3
          cases hl : listAt mem n with
          | none => rw [hl] at e; cases e
          | some ys =>
            rw [hl] at e
            dsimp only [Option.bind] at e
            by_cases hz : ys.length < sizeLine ∧ 0 ≤ i ∧ i < 2 ^ 63
            · rw [if_pos hz] at e
              cases e
              obtain ⟨vs, h2, h3⟩ := rs_list rs hl h1
              obtain ⟨rs', ew⟩ := rs_set rs h1 h2 (((h3.take i.toNat).append (.cons r5 .nil)).append (h3.drop i.toNat))
              exact ⟨a, vs, i, v2, rfl, rfl, h2, by rw [← h3.length]; exact hz.1, hz.2.1, hz.2.2, q _ _ _ ew rs' .non⟩
            · rw [if_neg hz] at e; cases e
  · cases e
def extendV : OpM := fun x ws mem => match x, ws with
  | .loc n, [.loc b] => (listAt mem n).bind fun xs => (listAt mem b).bind fun ys => if xs.length + ys.length ≤ sizeLine then some (.non, mem.set n (.lst (xs ++ ys))) else none
  | _, _ => none
theorem m_extend : MtR X "list.extend" (mtP X.K extendV) := mtR_of mt_extend fun wx ws mem loc H x xs w mem' Q rs r1 r2 e q => by
  unfold extendV at e
  split at e
  · rename_i n b
    cases r1 with
    | @loc _ a h1 =>
      cases r2 with
      | @cons _ v _ _ r3 r4 =>
        cases r4
        cases r3 with
        | @loc _ a2 h5 =>
          cases hl : listAt mem n with
          | none => rw [hl] at e; cases e
          | some ys =>
            rw [hl] at e
            dsimp only [Option.bind] at e
            cases hb : listAt mem b with
            | none => rw [hb] at e; cases e
            | some zs =>
              rw [hb] at e
              dsimp only at e
              by_cases hz : ys.length + zs.length ≤ sizeLine
              · rw [if_pos hz] at e
                cases e
                obtain ⟨vs, h2, h3⟩ := rs_list rs hl h1
                obtain ⟨us, h6, h7⟩ := rs_list rs hb h5
                obtain ⟨rs', ew⟩ := rs_set rs h1 h2 (h3.append h7)
                exact ⟨a, a2, vs, us, rfl, rfl, h2, h6, by rw [← h3.length, ← h7.length]; exact hz, q _ _ _ ew rs' .non⟩
              · rw [if_neg hz] at e; cases e
  · cases e
theorem se_append (ho : SE X W' o mo) (ha : SA X W' [e] as) (hbase : attributeBase o "append" X.env (eval o X.env) = eval o X.env := by rfl)
    (hline : (apos.endLine == cpos.line) = true := by rfl) (hs : starEach (e :: []) X.env = (false, eval e X.env) :: starEach [] X.env := by rfl)
    (hfew : ((backTo cpos (starEach (e :: []) X.env)).all (fun x => !x.1) && (backToKw cpos (keywordEach [] X.env)).all (fun x => x.1.isSome)
      && decide ((e :: []).length + ([] : List Keyword).length + (if ([] : List Keyword).isEmpty then 0 else 1) < 30)) = true := by rfl) : SE X W' (.Call (.Attribute o "append" apos) [e] [] cpos) (methE chkL appendV mo as) :=
  se_lm PySem.F.slot_list_append PySem.F.type_list_append m_append ho ha hbase hfew hline hs rfl
theorem se_pop (ho : SE X W' o mo) (ha : SA X W' [e] as) (hbase : attributeBase o "pop" X.env (eval o X.env) = eval o X.env := by rfl)
    (hline : (apos.endLine == cpos.line) = true := by rfl) (hs : starEach (e :: []) X.env = (false, eval e X.env) :: starEach [] X.env := by rfl)
    (hfew : ((backTo cpos (starEach (e :: []) X.env)).all (fun x => !x.1) && (backToKw cpos (keywordEach [] X.env)).all (fun x => x.1.isSome)
      && decide ((e :: []).length + ([] : List Keyword).length + (if ([] : List Keyword).isEmpty then 0 else 1) < 30)) = true := by rfl) : SE X W' (.Call (.Attribute o "pop" apos) [e] [] cpos) (methE chkL popV mo as) :=
  se_lm PySem.F.slot_list_pop PySem.F.type_list_pop m_pop ho ha hbase hfew hline hs rfl
theorem se_extend (ho : SE X W' o mo) (ha : SA X W' [e] as) (hbase : attributeBase o "extend" X.env (eval o X.env) = eval o X.env := by rfl)
    (hline : (apos.endLine == cpos.line) = true := by rfl) (hs : starEach (e :: []) X.env = (false, eval e X.env) :: starEach [] X.env := by rfl)
    (hfew : ((backTo cpos (starEach (e :: []) X.env)).all (fun x => !x.1) && (backToKw cpos (keywordEach [] X.env)).all (fun x => x.1.isSome)
      && decide ((e :: []).length + ([] : List Keyword).length + (if ([] : List Keyword).isEmpty then 0 else 1) < 30)) = true := by rfl) : SE X W' (.Call (.Attribute o "extend" apos) [e] [] cpos) (methE chkL extendV mo as) :=
  se_lm PySem.F.slot_list_extend PySem.F.type_list_extend m_extend ho ha hbase hfew hline hs rfl
end

/-! ### stores -/
abbrev OpSet := W → W → W → Mem → Option Mem
def subG (f : OpSet) (mo mi : EM) : GM := fun w env => SM.bind (mo env) fun o => SM.bind (mi env) fun i => fun m => match f o i w m with
  | some m' => .ok env m'
  | none => .bad
def setP (K : PySem.W.Frag) (f : OpSet) : TSet := fun o i v H Q => ∃ wo wi w mem loc, Rs K mem loc H ∧ Rv K loc H wo o ∧ Rv K loc H wi i ∧ Rv K loc H w v ∧ ∃ mem', f wo wi w mem = some mem' ∧ ∀ H', Ext loc H loc H' → Rs K mem' loc H' → Q H'
def setV : OpSet := fun o i w mem => match o, i with
  | .loc n, .int k => (listAt mem n).bind fun xs => (ixN xs.length k).map fun j => mem.set n (.lst (xs.set j w))
  | _, _ => none
section
variable {X : Cx} {o i : Expr} {mo mi : EM} {pos : Pos}
theorem takes_WX0 {X : Cx} : Takes X WX0 := takes0
theorem s_set : PSet X (setP X.K setV) := fun pins s σ H o i v ov iv u Q I ro ri rv q => set_list pins s σ H o i v ov iv u Q I ro ri rv (by
  obtain ⟨wo, wi, w, mem, loc, rs, r1, r2, r3, mem', e, q⟩ := q
  unfold setV at e
  split at e
  · rename_i n k
    cases r1 with
    | @loc _ a h1 =>
      cases r2
      cases hl : listAt mem n with
      | none => rw [hl] at e; cases e
      | some xs =>
        rw [hl] at e
        dsimp only [Option.bind] at e
        cases hk : ixN xs.length k with
        | none => rw [hk] at e; cases e
        | some j =>
          rw [hk] at e
          cases e
          obtain ⟨vs, h2, h3⟩ := rs_list rs hl h1
          obtain ⟨rs', ew⟩ := rs_set rs h1 h2 (h3.set r3 j)
          exact ⟨a, vs, k, j, rfl, rfl, h2, by rw [← h3.length]; exact hk, q _ ew rs'⟩
  · cases e)
theorem sg_sub {f : OpSet} (ho : SE X WX0 o mo) (hi : SE X WX0 i mi) (hs : PSet X (setP X.K f))
    (ha : ∀ v, assign (.Subscript
            o i pos) X.env v = (do
      let ov ← holding
              [v] (eval o X.env)
      let iv ← holding [v,
              ov] (eval i X.env)
      standAt pos
      holding [v, ov, iv]
              (setItem ov iv v)
      release [v, ov, iv] []) := by intro _; rfl) : SG X (.Subscript o i pos) (subG f mo mi) :=
  ⟨fun pins s σ H v u Q I r h => (pg_sub ho hi hs ha).run pins s σ H v u Q I r (by
    obtain ⟨w, env, mem, loc, rv, re, rs, h⟩ := h
    have fix : ∀ {α : Type} {r : Res α} {ok : α → Mem → Prop} {σ' : L2.St} {l : Locs} {H' : Hp}, r.Post ok noX → r.Post ok (exQ X.K WX0 σ' l H') := fun {α r ok σ' l H'} z => z.imp (fun _ _ y => y) fun _ _ y => y.elim
    refine denE_then (k := fun env o => SM.bind (mi env) fun i => fun m => match f o i w m with | some m' => .ok env m' | none => .bad) re rs (fix h) fun o mem1 vo H1 loc1 e1 rs1 rv1 re1 h1 => ?_
    refine denE_then (k := fun env i => fun m => match f o i w m with | some m' => .ok env m' | none => .bad) re1 rs1 h1 fun i mem2 vi H2 loc2 e2 rs2 rv2 re2 h2 => ?_
    cases ef : f o i w mem2 with
    | none => rw [ef] at h2; exact h2.elim
    | some m' =>
      rw [ef] at h2
      exact ⟨o, i, w, mem2, loc2, rs2, rv1.mono e2, rv2, rv.mono (e1.trans e2), m', ef, fun H' e3 rs3 => h2 σ H' loc2 ((e1.trans e2).trans e3) rs3 (re2.mono e3)⟩)⟩
end

/-! ### a, b, .. = a list or a tuple -/
def seqG (n : Nat) (g : GMs) : GM := fun w env mem => match itemsOf mem w with
  | some ws => if ws.length = n then g ws env mem else .bad
  | none => .bad
theorem PG.or {X : Cx} {tg : Expr} {t t' : TG} (h : PG X tg t) (h' : PG X tg t') : PG X tg (fun v σ H Q => t v σ H Q ∨ t' v σ H Q) :=
  ⟨fun pins s σ H v u Q I r q => q.elim (h.run pins s σ H v u Q I r) (h'.run pins s σ H v u Q I r)⟩
section
variable {X : Cx} {pos : Pos} {es : List Expr} {k n : Nat} {g : GMs}
theorem sg_seq (hc : X.calm = true) (h : SGs X es g) (hn : (assignEach es X.env).length = n := by rfl) (hst : (assignEach es X.env).findIdx? (·.1) = none := by rfl) : SG X (.Tuple es k pos) (seqG n g) :=
  ⟨fun pins s σ H v u Q I rr hq => (PG.or (pg_tup hc h hn hst) (pg_lst hc h hn hst)).run pins s σ H v u Q I rr (by
    obtain ⟨w, env, mem, loc, rv, re, rs, hq⟩ := hq
    unfold seqG at hq
    cases hi : itemsOf mem w with
    | none => rw [hi] at hq; exact hq.elim
    | some ws =>
      rw [hi] at hq
      dsimp only at hq
      by_cases hl : ws.length = n
      · rw [if_pos hl] at hq
        obtain ⟨a, vs, rfl, h1, h2⟩ := items_rv rs rv hi
        rcases h1 with h1 | h1
        · exact .inr ⟨a, vs, rfl, h1, by rw [← h2.length]; exact hl, ws, env, mem, loc, h2, re, rs, hq⟩
        · exact .inl ⟨a, vs, rfl, h1, by rw [← h2.length]; exact hl, ws, env, mem, loc, h2, re, rs, hq⟩
      · rw [if_neg hl] at hq
        exact hq.elim)⟩
theorem so_seq {vs : List Nat} (hc : X.calm = true) (h : SOs X vs es g) (hn : (assignEach es X.env).length = n := by rfl) (hst : (assignEach es X.env).findIdx? (·.1) = none := by rfl) : SO X vs (.Tuple es k pos) (seqG n g) :=
  ⟨fun pins s σ H v u Q I rr hq => (PG.or (pg_tup hc h hn hst) (pg_lst hc h hn hst)).run pins s σ H v u Q I rr (by
    obtain ⟨w, env, mem, loc, rv, re, rs, hq⟩ := hq
    unfold seqG at hq
    cases hi : itemsOf mem w with
    | none => rw [hi] at hq; exact hq.elim
    | some ws =>
      rw [hi] at hq
      dsimp only at hq
      by_cases hl : ws.length = n
      · rw [if_pos hl] at hq
        obtain ⟨a, us, rfl, h1, h2⟩ := items_rv rs rv hi
        rcases h1 with h1 | h1
        · exact .inr ⟨a, us, rfl, h1, by rw [← h2.length]; exact hl, ws, env, mem, loc, h2, re, rs, hq⟩
        · exact .inl ⟨a, us, rfl, h1, by rw [← h2.length]; exact hl, ws, env, mem, loc, h2, re, rs, hq⟩
      · rw [if_neg hl] at hq
        exact hq.elim)⟩
end

/-! ### isinstance -/
def tyName (mem : Mem) : W → Option String
  | .non => some "NoneType" | .bl _ => some "bool" | .int _ => some "int" | .str _ => some "str" | .tup _ => some "tuple" | .rol _ => some "list"
  | .loc n => match mem[n]? with
    | some (.lst _)
            => some "list"
    | some (.dK _) => some "dict"
    | some (.dT _) => some "dict"
    | none => none
  | _ => none
/-- the answers that are asked for -/
def kind (a b : String) : Option Bool :=
  if ["NoneType", "bool", "int", "str", "tuple", "list", "dict"].contains a && ["bool", "int", "str", "tuple", "list"].contains b then some (a == b || (a == "bool" && b == "int")) else none
theorem kind_ok {K : PySem.W.Frag} {a b : String} {r : Bool} (h : kind a b = some r) : PySem.W.kitOne K (.type a) (.type b) = some r := by
  unfold kind at h
  split at h
  · rename_i hc
    have ha : a ∈ ["NoneType", "bool", "int", "str", "tuple", "list", "dict"] := by
      have := (Bool.and_eq_true_iff.mp hc).1
      simpa using this
    have hb : b ∈ ["bool", "int", "str", "tuple", "list"] := by
      have := (Bool.and_eq_true_iff.mp hc).2
      simpa using this
    have key : ∀ a ∈ ["NoneType", "bool", "int", "str", "tuple", "list", "dict"], ∀ b ∈ ["bool", "int", "str", "tuple", "list"], kitB a b = some (a == b || (a == "bool" && b == "int")) := by decide +kernel
    exact kit_ty (by rw [key a ha b hb]; exact h)
  · cases h
def isiV : OpN := fun ws mem => match ws with
  | [x, .ty n] => (tyName mem x).bind fun a => (kind a n).map fun b => (.bl b, mem)
  | [x, .tup [.ty n, .ty m]] => (tyName mem x).bind fun a => (kind a n).bind fun b => (kind a m).map fun c => (.bl (b || c), mem)
  | _ => none
theorem ty_rv {K : PySem.W.Frag} {mem : Mem} {loc : Locs} {H : Hp} {w : W} {v : V} {a : String} (rs : Rs K mem loc H) (r : Rv K loc H w v) (h : tyName mem w = some a) : TyX K H v (.type a) := by
  cases r with
  | non => cases h; exact .base .non
  | bl b => cases h; exact .base (.bl b)
  | int i => cases h; exact .base (.int i)
  | str x => cases h; exact .base (.str x)
  | @tup ws p vs h1 h2 =>
    cases h
    rcases h1 with (h1 | ⟨o, h1⟩) | ⟨o, its, n, h1, h3, _⟩
    · exact .base (.tup h1)
    · exact .fTuple h1
    · exact .kTuple h1 h3
  | @rol ws p vs h1 h2 =>
    cases h
    rcases h1 with ⟨o, h1⟩ | h1
    · exact .base (.frz h1)
    · rcases h1 (fun _ => none) with (h1 | ⟨o, h1⟩) | ⟨o, its, n, h1, h3, _⟩
      · cases h1
      · cases h1
      · exact .kList h1 h3
  | ty n => cases h
  | ob n => cases h
  | @loc n p h1 =>
    unfold tyName at h
    dsimp only at h
    cases hm : mem[n]? with
    | none => rw [hm]
            at h; cases h
    | some c =>
      rw [hm] at h
      obtain ⟨q, hq, rc⟩ := rs.cell n c hm
      rw [h1] at hq
      cases hq
      cases c with
      | lst xs => cases h; obtain ⟨vs, h2, _⟩ := rc; exact .base (.lst h2)
      | dK xs => cases h; obtain ⟨vs, h2, _⟩ := rc; exact .base (.dK h2)
      | dT xs => cases h; obtain ⟨vs, h2, _⟩ := rc; exact .base (.dT h2)
/-- a tuple of classes that was laid on the way -/
def rIsi2 (K : PySem.W.Frag) : List V → Hp → VK → Prop := fun xs H Q => rIsi K xs H Q ∨ ∃ (x : V) (tp : Addr) (t : Value) (n m : String) (b c : Bool), xs = [x, .ref tp] ∧ SqT K H tp [.ty n, .ty m] ∧ TyX K H x t ∧ PySem.W.kitOne K t (.type n) = some b ∧ PySem.W.kitOne K t (.type m) = some c ∧ Q (.bl (b || c)) H
section
variable {X : Cx}
theorem kit_two {K : PySem.W.Frag} {t : Value} {n m : String} {b c : Bool} (h1 : PySem.W.kitOne K t (.type n) = some b) (h2 : PySem.W.kitOne K t (.type m) = some c) : PySem.W.kitAny K t [.type n, .type m] = some (b || c) :=
  kitAny_cons h1 (fun e => by subst e; exact kitAny_cons h2 (fun e => by subst e; exact kitAny_nil) (fun e => by subst e; rfl)) fun e => by subst e; rfl
theorem call_isi2 : CallR X (.builtin "isinstance") (rIsi2 X.K) := fun pins s σ H xs us Q I r h => by
  rcases h with h | ⟨x, tp, t, n, m, b, c, rfl, hT, ty, h1, h2, q⟩
  · exact call_isi pins s σ H xs us Q I r h
  · obtain ⟨u1, u2, rfl, r1, r2⟩ := vals2 r
    cases (show u2 =
            Value.ref tp from r2)
    obtain ⟨P, Z, p, hx⟩
            := kit_of I r1 ty
    obtain ⟨its, rv, ht, hz⟩ := I.tuple hT
    obtain ⟨⟨oc, od, dt, sl⟩, e1, e2, k, e3⟩ := id ht
    simp only at e2 e3
    subst e2 e3
    have hu : its = [.type n, .type m] := by
      obtain ⟨a, b, rfl, q1, q2⟩ := rv.two
      rw [show a = Value.type n from q1, show b = Value.type m from q2]
    subst hu
    exact PySem.W.kia_tup Z I.kIn p e1 (kit_two h1 h2) hx fun tk => ⟨.bl _, H, I.tok tk, rfl, q⟩
theorem c_isi : CallR X (.builtin "isinstance") (caP X.K isiV) := callR_of call_isi2 fun ws mem loc H xs w mem' Q rs rv e q => by
  unfold isiV at e
  split at e
  · rename_i x n
    cases rv with
    | cons r1 r2 =>
      cases r2 with
      | cons r3 r4 =>
        cases r4
        cases r3
        cases ht : tyName mem x with
        | none => rw [ht] at e; cases e
        | some a =>
          rw [ht] at e
          dsimp only [Option.bind] at e
          cases hk : kind a n with
          | none => rw [hk] at e; cases e
          | some b =>
            rw [hk] at e
            cases e
            exact .inl ⟨_, .ty n, _, _, b, rfl, .ty n, ty_rv rs r1 ht, kind_ok hk, q.flat rs rfl⟩
  · rename_i x n m
    cases rv with
    | cons r1 r2 =>
      cases r2 with
      | cons r3 r4 =>
        cases r4
        cases r3 with
        | @tup _ tp vs h1 h2 =>
          cases h2 with
          | cons r5 r6 =>
            cases r6 with
            | cons r7 r8 =>
              cases r8
              cases r5
              cases r7
              cases ht : tyName mem x with
              | none => rw [ht] at e; cases e
              | some a =>
                rw [ht] at e
                dsimp only [Option.bind] at e
                cases hk : kind a n with
                | none => rw [hk] at e; cases e
                | some b =>
                  rw [hk] at e
                  dsimp only at e
                  cases hk2 : kind a m with
                  | none => rw [hk2] at e; cases e
                  | some c =>
                    rw [hk2] at e
                    cases e
                    exact .inr ⟨_, tp, _, n, m, b, c, rfl, h1, ty_rv rs r1 ht, kind_ok hk, kind_ok hk2, q.flat rs rfl⟩
  · cases e
variable {W' : WX} {pos : Pos}
/-- the name of a built-in class, as a value -/
theorem se_ty {x : Str} {n : String} (hg : Gl X x) (hm : X.mg x = none) (hv : bootBuiltins x = some (.type n)) (hn : x ≠ "__name__" := by decide) (hd : (x == ("__debug__" : Str)) = false := by decide) : SE X W' (.Name x pos) (cE (.ty n)) :=
  se_const _ (pe_bltn (v := .ty n) hg hm hv rfl hn hd) fun _ _ => .ty n
end
end Sh
set_option linter.all false
set_option maxRecDepth 100000
set_option
        maxHeartbeats 4000000
/-! Sh7: what the top holds, calls by name, chains, a, b = x, y, x += y, list(range(n)). -/
namespace Sh
open PySem PySem.Spec
        PyProof.Rows L2

/-- a def stands at its name -/
structure DefAt (K : PySem.W.Frag) (mg : Str → Option Value) (x : Str) (st : Stmt) (ps : List Str) : Prop where
  ex : ∃ f fd, Fun K x x st f fd ∧ mg x = some (.ref f) ∧ Binds K fd ps []
def Lk (K : PySem.W.Frag) (f : Addr) (fd : FuncData) : Prop := ∃ (oc : Value) (od : Option Addr) (osl : Array (Option Value)), K.lookup f = some ⟨oc, od, .func fd, osl⟩
/-- the def of that name does F, at most k calls deep -/
structure GFn (P : Program) (w : World) (K : PySem.W.Frag) (mg : Str → Option Value) (base : Heap) (k : Nat) (x : Str) (ps : List Str) (F : Fn) : Prop where
  ex : ∃ f fd, FnS P w K mg base k f fd ps F ∧ mg x = some (.ref f) ∧ PySem.W.keepIn K (.ref f) = true ∧ Binds K fd ps [] ∧ Lk K f fd
/-- a value of the module -/
structure GVal (K : PySem.W.Frag) (mg : Str → Option Value) (x : Str) (w : W) : Prop where
  ex : ∃ u v, mg x = some u ∧ RelV v u ∧ ∀ (loc : Locs) (H : Hp), Rv K loc H w v
section
variable {P : Program} {w : World} {K : PySem.W.Frag}
        {mg : Str → Option Value} {base : Heap}
theorem GFn.mono {j k : Nat} {x : Str} {ps : List Str} {F : Fn} (h : GFn P w K mg base j x ps F) (l : j ≤ k) : GFn P w K mg base k x ps F := by
  obtain ⟨f, fd, h1, h2, h3, h4, h5⟩ := h.ex
  exact ⟨f, fd, h1.mono l, h2, h3, h4, h5⟩
/-- another answer, at least as good -/
theorem GFn.sub {k : Nat} {x : Str} {ps : List Str} {F F' : Fn} (h : GFn P w K mg base k x ps F) (i : ∀ ws mem, F' ws mem = .bad ∨ F' ws mem = F ws mem) : GFn P w K mg base k x ps F' := by
  obtain ⟨f, fd, h1, h2, h3, h4, h5⟩ := h.ex
  exact ⟨f, fd, h1.imp i, h2, h3, h4, h5⟩
theorem GFn.none {k : Nat} {x : Str} {st : Stmt} {ps : List Str} (D : DefAt K mg x st ps) : GFn P w K mg base k x ps (fun _ _ => .bad) := by
  obtain ⟨f, fd, F, hm, hb⟩ := D.ex
  obtain ⟨oc, od, _, _, _, _, _, _, osl, _, lk, _⟩ := F.ex
  exact ⟨f, fd, FnS.bad, hm, F.kp, hb, oc, od, osl, lk⟩
theorem GFn.to {k : Nat} {x : Str} {ps : List Str} {F F' : Fn} (h : GFn P w K mg base k x ps F) (e : F = F') : GFn P w K mg base k x ps F' := e ▸ h
theorem g_def {x : Str} {st : Stmt} {N ps : List Str} {k : Nat} {s : SS} (D : DefAt K mg x st ps) (S : FnScope N ps (defScope st))
    (hbody : ∀ (f : Addr) (cdv : Value) (A : Around) (outer : List Env) (s0 : Shared) (H : Hp) (E : XK), Room k (A.deeper (envOfC x (defScope st) s0.heap.objs.size f cdv)) →
      SBl (cxOf (L2.CX P w) P w K mg base N x (defScope st) f cdv A outer s0 H E) (fun cls d _ H => E cls d H) (defBody st) s) :
    GFn P w K mg base (k + 1) x ps (runB N.length s) := by
  obtain ⟨f, fd, F, hm, hb⟩ := D.ex
  obtain ⟨oc, od, _, _, _, _, _, _, osl, _, lk, _⟩ := id F.ex
  exact ⟨f, fd, fn_ok F S (hbody f), hm, F.kp, hb, oc, od, osl, lk⟩
end
section
variable {X : Cx} {W' : WX} {k : Nat} {ps : List Str} {F : Fn} {x : Str} {p pos : Pos} {e : Expr} {es : List Expr} {as : AM}
theorem se_g (G : GFn X.prog X.w X.K X.mg X.base k x ps F) (hr : Room k X.A) (hg : Gl X x) (tk : Takes X W') (ha : SA X W' (e :: es) as) (hn : NArgs ps.length as) (hdb : (x == ("__debug__" : Str)) = false := by decide)
    (he : starEach (e :: es) X.env = (false, eval e X.env) :: starEach es X.env := by rfl) (hpl : (backTo pos (starEach es X.env)).any (·.1) = false := by rfl) : SE X W' (.Call (.Name x p) (e :: es) [] pos) (callF F as) := by
  obtain ⟨f, fd, h1, h2, h3, h4, _⟩ := G.ex
  exact se_call h1 hr hg h2 h3 h4 tk ha hn hdb he hpl
theorem se_g0 (G : GFn X.prog X.w X.K X.mg X.base k x [] F) (hr : Room k X.A) (hg : Gl X x) (tk : Takes X W') (hdb : (x == ("__debug__" : Str)) = false := by decide) : SE X W' (.Call (.Name x p) [] [] pos) (callF F nilA) := by
  obtain ⟨f, fd, h1, h2, h3, h4, _⟩ := G.ex
  have hp : PE X (.Call (.Name x p) [] [] pos) (tCallS (spS X.K 0 F) (WE W') tNil) := by
    refine ⟨fun pins s
            σ H Q I h => ?_⟩
    refine wpAny_Call_Name_kw (ld_glob I hg h2 ?_ hdb)
    exact PySem.W.callWith_K0 I.kIn h3 (run_fnS (us := []) h1 hr h4 (passAt tk σ) I .nil h)
  refine pe_imp hp fun σ H Q ⟨env, mem, loc, re, rs, h⟩ => ?_
  have h' := post_bind (x := nilA env) (f := fun ws => F ws) h
  exact ⟨rfl, [], mem, loc, .nil, rs, h'⟩
theorem se_gv {v : W} (G : GVal X.K X.mg x v) (hg : Gl X x) (hd : (x == ("__debug__" : Str)) = false := by decide) : SE X W' (.Name x pos) (cE v) := by
  obtain ⟨u, v', h1, h2, h3⟩ := G.ex
  exact se_const _ (pe_glob hg h1 h2 hd) h3
/-! keywords alone -/
def SK (X : Cx) (W' : WX) (kws : List Keyword) (m : AM) : Prop := PK X kws (denA X.K W' m)
theorem pk_imp {kws : List Keyword} {t t' : TA} (h : PK X kws t) (i : ∀ σ H Q, t' σ H Q → t σ H Q) : PK X kws t' := ⟨fun p pins s σ H Q I q => h.run p pins s σ H Q I (i σ H Q q)⟩
theorem sk_nil : SK X W' [] nilA := pk_imp pk_nil fun σ H Q ⟨env, mem, loc, re, rs, h⟩ => h [] H loc Ext.refl rs .nil
theorem sk_cons {nm : Option Str} {kpos : Pos} {kws : List Keyword} {ma : EM} (ha : SE X W' e ma) (hr : SK X W' kws as) : SK X W' (⟨nm, e, kpos⟩ :: kws) (consA ma as) := by
  refine pk_imp (pk_cons ha hr) fun σ H Q h => ?_
  obtain ⟨env, mem, loc, re, rs, h⟩ := h
  refine denE_then (k := fun env x => SM.bind (as env) fun xs => SM.pure (x :: xs)) re rs h fun x mem1 v H1 loc1 e1 rs1 rv1 re1 h1 => ?_
  refine denA_then (k := fun env xs => SM.pure (x :: xs)) re1 rs1 h1 fun xs mem2 vs H2 loc2 e2 rs2 rv2 re2 h2 => ?_
  exact h2 _ H2 loc2 (e1.trans e2) rs2 (.cons (rv1.mono e2) rv2)
/-- the def's parameters may be named, all of them in their sequence -/
structure DefKw (K : PySem.W.Frag) (mg : Str → Option Value) (x : Str) (ps : List Str) : Prop where
  to : ∀ f fd, mg x = some (.ref f) → Binds K fd ps [] → ∀ (s : Shared) (ws : List Value), K.In s.heap → ws.length = ps.length → BindsTo s fd ⟨[], ps.zip ws⟩ (ps.zip ws)
end
section
variable {X : Cx} {W' : WX} {pos : Pos} {a b c : Expr} {ma mb mc : EM}
/-! ### chains -/
def chainE (f g : Op2) (ma mb mc : EM) : EM := fun env => SM.bind (ma env) fun x => SM.bind (mb env) fun y => SM.bind (fun m => lift (f x y m)) fun z => match isB z with
  | some true => SM.bind (mc env) fun w => fun m => lift (g y w m)
  | some false => SM.pure (.bl false)
  | none => fun _ => .bad
theorem den_chain {K : PySem.W.Frag} {σ : L2.St} {H : Hp} {Q : VK} {f g : Op2} (h : denE K W' (chainE f g ma mb mc) σ H Q) : tChain (opP K f) (opP K g) (denE K W' ma) (denE K W' mb) (denE K W' mc) σ H Q := by
  obtain ⟨env, mem, loc, re, rs, h⟩ := h
  refine denE_then (k := fun env x => SM.bind (mb env) fun y => SM.bind (fun m => lift (f x y m)) fun z => match isB z with | some true => SM.bind (mc env) fun w => fun m => lift (g y w m) | some false => SM.pure (.bl false) | none => fun _ => .bad) re rs h fun x mem1 v H1 loc1 e1 rs1 rv1 re1 h1 => ?_
  refine denE_then (k := fun env y => SM.bind (fun m => lift (f x y m)) fun z => match isB z with | some true => SM.bind (mc env) fun w => fun m => lift (g y w m) | some false => SM.pure (.bl false) | none => fun _ => .bad) re1 rs1 h1 fun y mem2 v2 H2 loc2 e2 rs2 rv2 re2 h2 => ?_
  obtain ⟨z, mem3, ef, h3⟩ := post_lift (post_bind (x := fun m => lift (f x y m)) h2)
  refine ⟨x, y, mem2, loc2, rs2, rv1.mono e2, rv2, z, mem3, ef, fun v3 H3 loc3 e3 rs3 rv3 => ?_⟩
  have e13 := (e1.trans e2).trans e3
  cases z with
  | bl k =>
    cases rv3
    refine ⟨k, rfl, ?_⟩
    cases k with
    | false => exact h3 _ H3 loc3 e13 rs3 (.bl false)
    | true =>
      have h3' : (SM.bind (mc env) (fun w => fun m => lift (g y w m)) mem3).Post (okQ K loc3 H3 Q) (exQ K W' σ loc3 H3) := h3.imp (fun _ _ z => okQ.mono e13 z) fun _ _ z => z.mono e3
      refine denE_then (k := fun env w => fun m => lift (g y w m)) (re2.mono e3) rs3 h3' fun w4 mem4 v4 H4 loc4 e4 rs4 rv4 re4 h4 => ?_
      obtain ⟨w5, mem5, eg, q⟩ := post_lift h4
      exact ⟨y, w4, mem4, loc4, rs4, rv2.mono (e3.trans e4), rv4, w5, mem5, eg, q.mono e4⟩
  | _ => exact h3.elim
variable {op op' : CmpOp} {f g : Op2}
theorem se_chain (ho : OpR X (compareOp op) (opP X.K f)) (ho' : OpR X (compareOp op') (opP X.K g)) (ha : SE X W' a ma) (hb : SE X W' b mb) (hc : SE X W' c mc) (hm : lastMarks [op, op'] [b, c] = false := by with_unfolding_all rfl) :
    SE X W' (.Compare a [op, op'] [b, c] pos) (chainE f g ma mb mc) := pe_imp (pe_chain ho ho' ha hb hc hm) fun _ _ _ h => den_chain h
theorem sb_chain (ho : OpR X (compareOp op) (opP X.K f)) (ho' : OpR X (compareOp op') (opP X.K g)) (ha : SE X W' a ma) (hb : SE X W' b mb) (hc : SE X W' c mc) (hm : lastMarks [op, op'] [b, c] = false := by with_unfolding_all rfl) :
    SB X W' (.Compare a [op, op'] [b, c] pos) (tB (chainE f g ma mb mc)) := pt_imp (pt_chain ho ho' ha hb hc hm) fun _ _ _ h => den_chain (den_tB h)

/-! ### a, b = x, y -/
def parS (i j : Nat) (as : AM) : SS := ofE as fun ws env mem => match ws with
  | [v, w] => .nx ((env.set i (some v)).set j (some w)) mem
  | _ => .bad
theorem ss_par {i j : Nat} {x y : Str} {as : AM} {px py pt : Pos} {kt k2 pt2} (hc : X.calm = true) (hN : X.N.Nodup) (hi : X.N[i]? = some x) (hj : X.N[j]? = some y) (hij : i ≠ j)
    (hx : X.env.scope.names.lookup x = some .local) (hy : X.env.scope.names.lookup y = some .local) (ha : SA X W' [a, b] as)
    (hw : swappedStores [.Tuple [.Name x px, .Name y py] kt
            pt] (.Tuple [a, b] k2 pt2) X.env = pure (some [x, y]))
    (hs : swapsWithSole [.Tuple [.Name x px, .Name y py] kt pt]
            (.Tuple [a, b] k2 pt2) pos.line X.env = pure false := by rfl) :
    SSt X W' (.Assign [.Tuple [.Name x px, .Name y py] kt pt] (.Tuple [a, b] k2 pt2) pos) (parS i j as) := by
  refine ps_imp (ps_par hc hN hi hj hij hx hy ha hw hs) fun D σ H ⟨env, mem, loc, re, rs, h⟩ => ?_
  refine denA_of (k := fun ws env mem => match ws with | [v, w] => .nx ((env.set i (some v)).set j (some w)) mem | _ => .bad) re rs h fun ws mem1 vs H1 loc1 e1 rs1 rv1 re1 h1 => ?_
  match ws, vs, rv1, h1 with
  | [], _, _, h1 => exact h1.elim
  | [_], _, _, h1 => exact h1.elim
  | [w1, w2], _, .cons (v := v1) r1 (.cons (v := v2) r2 .nil), h1 => exact ⟨v1, v2, rfl, h1 _ H1 loc1 Ext.refl rs1 ((re1.set r1 i).set r2 j)⟩
  | _ :: _ :: _ :: _, _, _, h1 => exact h1.elim

/-! ### x += e -/
def augS (i : Nat) (f : Op2) (m : EM) : SS := ofE (bin f (varE i) m) fun w env mem => .nx (env.set i (some w)) mem
def addI : Op2 := iiV (fun _ _ => true) fun i j => .int (i + j)
theorem ss_augAdd {i : Nat} {x : Str} {e : Expr} {m : EM} {pos' : Pos} (hN : X.N.Nodup) (hi : X.N[i]? = some x) (hx : Loc X.env.scope x) (he : SE X W' e m) (hf : X.fn x = true ∨ X.env.scope.names.lookup x = some .local := by first | exact .inl rfl | exact .inr rfl | assumption) :
    SSt X W' (.AugAssign (.Name x pos') .Add e pos) (augS i addI m) := by
  refine ps_imp (ps_aug hN hi hx he ip_add hf) fun D σ H ⟨env, mem, loc, re, rs, h⟩ => ?_
  have h0 := ofE_post h
  unfold bin SM.bind varE at h0
  cases ei : env[i]? with
  | none => rw [ei] at h0; exact h0.elim
  | some o =>
    cases o with
    | none => rw [ei] at h0; exact h0.elim
    | some w0 =>
      obtain ⟨v0, hv, rv0⟩ := re.get i w0 ei
      refine ⟨v0, hv, env, mem, loc, re, rs, ?_⟩
      rw [ei] at h0
      dsimp only at h0
      cases em : m env mem with
      | exc y m1 => rw [em] at h0; exact exQ_of re h0
      | bad => rw [em] at h0; exact h0
      | ok w1 m1 =>
        rw [em] at h0
        intro v1 H1 loc1 e1 rs1 rv1
        obtain ⟨w, m2, ef, q⟩ := post_lift h0
        obtain ⟨n1, n2, rfl, rfl, _, rfl, rfl⟩ := iiV_ok ef
        cases rv1
        cases rv0
        exact ⟨n1, n2, rfl, rfl, q _ H1 loc1 e1 rs1 ((re.mono e1).set (.int _) i)⟩

/-! ### list(range(n)) -/
def rgW (n : Int) : List W := (List.range n.toNat).map fun i => W.int ((i : Nat) : Int)
def lrE (m : EM) : EM := fun env => SM.bind (m env) fun w mem => match w with
  | .int n => if 0 ≤ n ∧ n ≤ 16777216 then .ok (.loc mem.length) (mem ++ [.lst (rgW n)]) else .bad
  | _ => .bad
theorem rvs_ints {K : PySem.W.Frag} {loc : Locs} {H : Hp} : ∀ (ns : List Int), Rvs K loc H (ns.map W.int) (ns.map V.int)
  | [] => .nil
  | n :: ns => .cons (.int n) (rvs_ints ns)
theorem rvs_rg {K : PySem.W.Frag} {loc : Locs} {H : Hp} (n : Int) : Rvs K loc H (rgW n) (rgV 0 n) := by
  have h := rvs_ints (K := K) (loc := loc) (H := H) ((List.range n.toNat).map fun i => ((i : Nat) : Int))
  rw [List.map_map, List.map_map] at h
  unfold rgW rgV
  have e : (fun i : Nat => V.int (0 + ((i : Nat) : Int))) = (V.int ∘ fun i : Nat => ((i : Nat) : Int)) := by
    funext i
    show V.int (0 + (i : Int)) = V.int (i : Int)
    rw [Int.zero_add]
  rw [Int.sub_zero, e]
  exact h
theorem se_listRange {p p2 pos2 : Pos} (hc : X.calm = true) (hl : Gl X "list") (ml : X.mg "list" = none) (hg : Gl X "range") (mr : X.mg "range" = none) (ha : SE X W' a ma) (na : starEach [a] X.env = (false, eval a X.env) :: starEach [] X.env := by rfl)
    (na2 : starEach [.Call (.Name "range" p2) [a] [] pos2] X.env = (false, eval (.Call (.Name "range" p2) [a] [] pos2) X.env) :: starEach [] X.env := by rfl) :
    SE X W' (.Call (.Name "list" p) [.Call (.Name "range" p2) [a] [] pos2] [] pos) (lrE ma) := by
  refine pe_imp (pe_listRg hc hl ml (prg_1 hg mr ha na) na2) fun σ H Q ⟨env, mem, loc, re, rs, h⟩ => ?_
  refine denE_then (k := fun env w mem => match w with | .int n => if 0 ≤ n ∧ n ≤ 16777216 then .ok (W.loc mem.length) (mem ++ [Cell.lst (rgW n)]) else .bad | _ => .bad) re rs h fun w mem1 v H1 loc1 e1 rs1 rv1 re1 h1 => ?_
  cases rv1 with
  | int n =>
    dsimp only at h1
    by_cases hn : 0 ≤ n ∧ n ≤ 16777216
    · rw [if_pos hn] at h1
      refine ⟨n, rfl, RgOk.of_le (Int.le_refl 0) hn.2 (by decide) hn.1, fun q hq => ?_⟩
      obtain ⟨r1, r2⟩ := rs_newlist rs1 (rvs_rg n) hq
      exact h1 _ _ _ (e1.trans (Ext.alloc hq)) r1 r2
    · rw [if_neg hn] at h1
      exact h1.elim
  | _ => exact h1.elim
end
end Sh
set_option linter.all false
set_option maxRecDepth 100000
set_option
        maxHeartbeats 4000000
/-! Sh8: calls by keywords, insert. -/
namespace Sh
open PySem PySem.Spec
        PyProof.Rows L2
theorem hu65 {A : Around} {k : Nat} (hr : Room k A) : A.units + 65 < cLine := by have := hr.un; omega
/-- the def's parameters may be named, all of them in their sequence -/
structure KwAt (K : PySem.W.Frag) (mg : Str → Option Value) (x : Str) (ps : List Str) : Prop where
  ex : ∃ f fd, mg x = some (.ref f) ∧ Lk K f fd ∧ ∀ (s : Shared) (ws : List Value), K.In s.heap → ws.length = ps.length → BindsTo s fd ⟨[], ps.zip ws⟩ (ps.zip ws)
section
variable {X : Cx} {W' : WX} {k : Nat} {ps : List Str} {F : Fn} {x : Str} {p pos : Pos} {as : AM} {kws : List Keyword}
theorem se_kw (G : GFn X.prog X.w X.K X.mg X.base k x ps F) (D : KwAt X.K X.mg x ps) (hr : Room k X.A) (hg : Gl X x) (tk : Takes X W') (ha : SK X W' kws as) (hn : NArgs ps.length as)
    (hall : (backToKw pos (keywordEach kws X.env)).all (·.1.isSome) = true := by rfl) (hks : (backToKw pos (keywordEach kws X.env)).filterMap (·.1) = ps := by rfl)
    (hdb : (x == ("__debug__" : Str)) = false := by decide) (hpl : ((backTo pos (starEach [] X.env)).any (·.1) || (backToKw pos (keywordEach kws X.env)).any (·.1.isNone)) = false := by rfl) :
    SE X W' (.Call (.Name x p) [] kws pos) (callF F as) := by
  obtain ⟨f, fd, h1, h2, h3, _, _, _, _, lk⟩ := G.ex
  obtain ⟨f', fd', h5, ⟨_, _, _, lk2⟩, h4⟩ := D.ex
  rw [h2] at h5
  cases h5
  rw [lk] at lk2
  cases lk2
  have hp : PE X (.Call (.Name x p) [] kws pos) (fun σ H Q => denA X.K W' as σ H fun vs H1 => spS X.K ps.length F vs H1 Q (WE W' σ)) := by
    refine ⟨fun pins s
            σ H Q I h => ?_⟩
    refine wpAny_Call_Name_kw (ld_glob I hg h2 ?_ hdb)
    refine PySem.W.callWith_KW0 (h₀ := X.base) I.ok.mod.kin h3 hall (thn (PK.run ha pos pins s σ H _ I h) fun us s1 ⟨vs, H1, I1, r, q⟩ => ⟨I1.kIn, ?_⟩) hpl
    rw [hks]
    have hl : us.length = ps.length := by rw [← r.length]; exact q.1
    refine wpAny_call (codeAny_mono (h1.run X.A X.stack s1 H1 ⟨[], ps.zip us⟩ us vs Q (WE W' σ) hr I1.env0 (h4 s1 us I1.kIn hl) r q) fun r s' hq => ?_)
    cases r with
    | error e => exact passAt tk σ pins H1 s1 e s' I1 hq
    | ok fl =>
      cases fl with
      | ret u => exact I1.after hq
      | next => exact False.elim hq
      | brk => exact False.elim hq
      | cont => exact False.elim hq
  exact pe_imp hp fun _ _ _ h => den_call h hn
variable {o e e2 : Expr} {mo : EM} {apos cpos : Pos}
theorem se_insert (ho : SE X W' o mo) (ha : SA X W' [e, e2] as) (hbase : attributeBase o "insert" X.env (eval o X.env) = eval o X.env := by rfl)
    (hline : (apos.endLine == cpos.line) = true := by rfl) (hs : starEach (e :: [e2]) X.env = (false, eval e X.env) :: starEach [e2] X.env := by rfl)
    (hfew : ((backTo cpos (starEach (e :: [e2]) X.env)).all (fun x => !x.1) && (backToKw cpos (keywordEach [] X.env)).all (fun x => x.1.isSome)
      && decide ((e :: [e2]).length + ([] : List Keyword).length + (if ([] : List Keyword).isEmpty then 0 else 1) < 30)) = true := by rfl)
    (hplain : (backTo cpos (starEach [e2] X.env)).any (·.1) = false := by rfl) : SE X W' (.Call (.Attribute o "insert" apos) [e, e2] [] cpos) (methE chkL insertV mo as) :=
  se_lm PySem.F.slot_list_insert PySem.F.type_list_insert m_insert ho ha hbase hfew hline hs hplain
end
end Sh
set_option linter.all false
set_option maxRecDepth 100000
set_option
        maxHeartbeats 4000000
/-! Sh9: the end: what stands at the top, the law's call. -/
namespace Sh
open PySem PySem.Spec
        PyProof.Rows L2

section
variable {K : PySem.W.Frag} {h :
        Heap} {mg : Str → Option Value}
theorem at_none {x : Str} (X : K.In h) (G : h.Ns mainGlobals mg) (e : PySem.W.nsIn K mainGlobals x = some none) : mg x = none := PySem.W.mg_none_of X G e
theorem at_int {x : Str} {i : Int} {t : Tok} (X : K.In h) (G : h.Ns mainGlobals mg) (e : PySem.W.nsIn K mainGlobals x = some (some (.int i t))) : GVal K mg x (.int i) :=
  ⟨_, .int i, PySem.W.mg_of X G e, ⟨t, rfl⟩, fun _ _ => .int i⟩
/-- texts in a tuple -/
theorem vals_strs : ∀ {zs : List Str} {us : List Value}, (us.map fun u => match u with | .str z _ => some z | _ => none) = zs.map some → Vals (zs.map V.str) us
  | [], [], _ => .nil
  | [], _ :: _, e => by cases e
  | _ :: _, [], e => by cases e
  | z :: zs, u :: us, e => by
    simp only [List.map_cons,
            List.cons.injEq] at e
    obtain ⟨e1, e2⟩ := e
    cases u with
    | str y t => cases e1; exact .cons ⟨t, rfl⟩ (vals_strs e2)
    | _ => cases e1
theorem rvs_strs {loc : Locs} {H : Hp} : ∀ (zs : List Str), Rvs K loc H (zs.map W.str) (zs.map V.str)
  | [] => .nil
  | z :: zs => .cons (.str z) (rvs_strs zs)
theorem at_strs {x : Str} {a : Addr} {dd : Option Addr} {its : Array Value} {n : Nat} {sl : Array (Option Value)} {zs : List Str} (X : K.In h) (G : h.Ns mainGlobals mg) (e : PySem.W.nsIn K mainGlobals x = some (some (.ref a)))
    (l : K.lookup a = some ⟨.type "tuple", dd, .seq its n, sl⟩) (hz : (its.toList.map fun u => match u with | .str z _ => some z | _ => none) = zs.map some) (hl : zs.length ≤ 1000) : GVal K mg x (.tup (zs.map W.str)) := by
  have hv := vals_strs hz
  have hs : its.size ≤ sizeLine := by
    have e1 := hv.length
    rw [List.length_map] at e1
    have e2 : its.toList.length = its.size := Array.length_toList
    rw [sizeLine_eq]
    omega
  exact ⟨_, .ref a, PySem.W.mg_of X G e, rfl, fun _ _ => .tup (.inr ⟨_, its, n, l, rfl, rfl, hs, hv⟩) (rvs_strs zs)⟩
theorem at_def {x : Str} {st : Stmt} {ps : List Str} {f : Addr} {oc : Value} {od an : Option Addr} {osl : Array (Option Value)} {kV doc pm cdv ct : Value} (X : K.In h) (G : h.Ns mainGlobals mg)
    (e : PySem.W.nsIn K mainGlobals x = some (some (.ref f))) (l : K.lookup f = some ⟨oc, od, .func (PySem.W.fnOf x x (defArgs st) (defBody st) (defScope st) .none kV doc pm an cdv ct), osl⟩)
    (c : PySem.W.codeIn K cdv x = true) (k : PySem.W.keepIn K (.ref f) = true)
    (b : ∀ (kV doc pm : Value) (an : Option Addr) (cdv ct : Value) (us : List Value), us.length = ps.length → bindArgs (PySem.W.fnOf x x (defArgs st) (defBody st) (defScope st) .none kV doc pm an cdv ct) ⟨us, []⟩ = pure (ps.zip us)) : DefAt K mg x st ps :=
  have F := fun_mk (st := st) l c k
  ⟨f, _, F, PySem.W.mg_of X G e, F.binds b⟩
end
theorem at_kw {K : PySem.W.Frag} {h : Heap} {mg : Str → Option Value} {x : Str} {st : Stmt} {ps : List Str} (D : DefAt K mg x st ps)
    (b : ∀ (kV doc pm : Value) (an : Option Addr) (cdv ct : Value) (us : List Value), us.length = ps.length → bindArgs (PySem.W.fnOf x x (defArgs st) (defBody st) (defScope st) .none kV doc pm an cdv ct) ⟨[], ps.zip us⟩ = pure (ps.zip us)) : KwAt K mg x ps := by
  obtain ⟨f, fd, Fu, hm, hb⟩ := D.ex
  obtain ⟨oc, od, kV, doc, pm, an, cdv, ct, osl, rfl, lk, hcd⟩ := Fu.ex
  exact ⟨f, _, hm, ⟨oc, od, osl, lk⟩, fun s ws _ hl => .of_eq (b kV doc pm an cdv ct ws hl)⟩
/-- the law's call, from the computation that it does -/
theorem law_walk {l : PySem.W.OpenLaw} {q : Program} {loose : List Str} {XP : (Str → Option Value) → Heap → Prop} {YP : World → Heap → Prop} {d : DefRec} {K : Params → PySem.W.Frag} {k : Nat} {F : Fn} (hn : l.most = some 63) (hdf : d.params.defaults = []) (hr : Room k callerA)
    (hY : ∀ (w : World) (h : Heap), YP w h → (K w.params).In h) (hd : d.name = "law")
    (hF : ∀ (w : World) (mg : Str → Option Value) (h : Heap), (K w.params).In h → h.Ns mainGlobals mg → (∃ st, DefAt (K w.params) mg "law" st ["script"] ∧ ∀ (kV doc pm : Value) (an : Option Addr) (cdv ct u : Value), bindArgs (PySem.W.fnOf "law" "law" (defArgs st) (defBody st) (defScope st) .none kV doc pm an cdv ct) ⟨[u], []⟩ = pure [(("script" : Str), u)]) ∧ ∀ base : Heap, (K w.params).In base → base.Ns mainGlobals mg → GFn l.prog w (K w.params) mg base k "law" ["script"] F)
    (hlaw : ∀ ns : List Int, ns.length ≤ 63 → ∃ m, F [.rol (ns.map W.int)] [] = .ok (.bl true) m) :
    PySem.W.WalkO q loose XP YP l.row.toRowW
            d [] (fun f vs => PySem.call f vs) := by
  refine L2.walk_of (n := 63) (k := k) (x := "script") (CX := fun w => L2.CX l.prog w) (sp := fun w => spS (K w.params) 1 F) hn (by decide) hdf hr hY (fun w mg fa h X G hfa => ?_) (fun w H a ns hl hO hS => ?_) fun w H s e s' z => ?_
  · obtain ⟨⟨st, D, bl⟩, hg⟩ := hF w mg h X G
    obtain ⟨f, fd, Fu, hm, hb⟩ := D.ex
    rw [hd, hm] at hfa
    cases hfa
    obtain ⟨oc, od, kV, doc, pm, an, cdv, ct, osl, efd, lk, _⟩ := id Fu.ex
    refine ⟨fd, fun s u => ?_, fun base B N => ?_⟩
    · subst efd
      exact .of_eq (bl kV doc pm an cdv ct u)
    · obtain ⟨f', fd', h1, h2, _, _, _, _, _, lk2⟩ := (hg base B N).ex
      rw [hm] at h2
      cases h2
      rw [lk] at lk2
      cases lk2
      exact h1
  · obtain ⟨m, e⟩ := hlaw ns hl
    refine ⟨rfl, [.rol (ns.map W.int)], [], [], .cons (.rol ?_ (rvs_ints ns)) .nil, ⟨rfl, List.nodup_nil, fun i c h => by simp at h⟩, ?_⟩
    · rcases hS with (h | ⟨o, h⟩) | h
      · rcases hO a with z | ⟨o, xs, z⟩
        · rw [h] at z; cases z
        · rw [h] at z; cases z
      · exact .inl ⟨o, h⟩
      · exact .inr fun H' => .inr h
    · rw [e]
      intro v H' loc' _ _ r
      cases r
      rfl
  · obtain ⟨_, _, _, _, _, _, _, _, _, _, _, _, z⟩ := z
    exact z
end Sh
set_option linter.all false
set_option maxRecDepth 100000
set_option
        maxHeartbeats 4000000
/-! Sh10: what is wanted of a computation, from its end to its start (for simp), and loops. -/
namespace Sh
open PySem PySem.Spec
        PyProof.Rows L2

section
variable {α β : Type} {Q : α → Mem → Prop} {ex : Exc → Mem → Prop} {mem : Mem} {env : VEnv}
@[simp] theorem wp_ok {a : α} {m : Mem} : (Res.ok a m).Post Q ex = Q a m := rfl
@[simp] theorem wp_bad : (Res.bad : Res α).Post Q ex = False := rfl
@[simp] theorem wp_exc {x : Exc} {m : Mem} : (Res.exc x m : Res α).Post Q ex = ex x m := rfl
@[simp] theorem wp_pure {a : α} : (SM.pure a mem).Post Q ex = Q a mem := rfl
@[simp] theorem wp_bind {x : SM β} {f : β → SM α} : (SM.bind x f mem).Post Q ex = (x mem).Post (fun a m => (f a m).Post Q ex) ex := by
  unfold SM.bind
  cases x mem <;> rfl
@[simp] theorem wp_lift {a : α} {m : Mem} : (lift (some (a, m))).Post Q ex = Q a m := rfl
@[simp] theorem wp_lift0 : (lift (none : Option (α × Mem))).Post Q ex = False := rfl
theorem wp_lift_of {o : Option (α × Mem)} {a : α} {m : Mem} (h : o = some (a, m)) (q : Q a m) : (lift o).Post Q ex := by rw [h]; exact q
end
section
variable {Q : W → Mem → Prop} {ex : Exc → Mem → Prop} {mem : Mem} {env : VEnv} {ma mb mc : EM} {as : AM}
@[simp] theorem wp_var {i : Nat} : (varE i env mem).Post Q ex = (match env[i]? with | some (some w) => Q w mem | _ => False) := by
  unfold varE
  cases env[i]? with
  | none => rfl
  | some o => cases o <;> rfl
@[simp] theorem wp_c {w : W} : (cE w env mem).Post Q ex = Q w mem := rfl
@[simp] theorem wp_bin {f : Op2} : (bin f ma mb env mem).Post Q ex = (ma env mem).Post (fun x m => (mb env m).Post (fun y m => (lift (f x y m)).Post Q ex) ex) ex := by
  unfold bin
  simp
@[simp] theorem wp_un {f : Op1} : (un f ma env mem).Post Q ex = (ma env mem).Post (fun x m => (lift (f x m)).Post Q ex) ex := by
  unfold un
  simp
@[simp] theorem wp_callN {f : OpN} : (callN f as env mem).Post Q ex = (as env mem).Post (fun xs m => (lift (f xs m)).Post Q ex) ex := by
  unfold callN
  simp
@[simp] theorem wp_callF {F : Fn} : (callF F as env mem).Post Q ex = (as env mem).Post (fun ws m => (F ws m).Post Q ex) ex := by
  unfold callF
  simp
@[simp] theorem wp_nil {Q : List W → Mem → Prop} : (nilA env mem).Post Q ex = Q [] mem := rfl
@[simp] theorem wp_cons {Q : List W → Mem → Prop} : (consA ma as env mem).Post Q ex = (ma env mem).Post (fun x m => (as env m).Post (fun xs m => Q (x :: xs) m) ex) ex := by
  unfold consA
  simp
@[simp] theorem wp_tup : (tupE as env mem).Post Q ex = (as env mem).Post (fun xs m => xs.length ≤ sizeLine ∧ Q (.tup xs) m) ex := by
  unfold tupE
  rw [wp_bind]
  congr 1
  funext xs m
  by_cases h : xs.length ≤ sizeLine
  · rw [if_pos h]; simp [h]
  · rw [if_neg h]; simp [h]
@[simp] theorem wp_lst : (lstE as env mem).Post Q ex = (as env mem).Post (fun xs m => xs.length ≤ sizeLine ∧ Q (.loc m.length) (m ++ [.lst xs])) ex := by
  unfold lstE
  rw [wp_bind]
  congr 1
  funext xs m
  by_cases h : xs.length ≤ sizeLine
  · rw [if_pos h]; simp [h]
  · rw [if_neg h]; simp [h]
@[simp] theorem wp_boolE {f : W → Option Bool} {yes no : EM} : (boolE f ma yes no env mem).Post Q ex = (ma env mem).Post (fun w m => match f w with | some true => (yes env m).Post Q ex | some false => (no env m).Post Q ex | none => False) ex := by
  unfold boolE
  rw [wp_bind]
  congr 1
  funext w m
  cases f w with
  | none => rfl
  | some b => cases b <;> rfl
@[simp] theorem wp_andV : (andV ma mb env mem).Post Q ex = (ma env mem).Post (fun w m => match isB w with | some true => (mb env m).Post Q ex | some false => Q (.bl false) m | none => False) ex := wp_boolE
@[simp] theorem wp_orV : (orV ma mb env mem).Post Q ex = (ma env mem).Post (fun w m => match isB w with | some true => Q (.bl true) m | some false => (mb env m).Post Q ex | none => False) ex := wp_boolE
@[simp] theorem wp_notV : (notV ma env mem).Post Q ex = (ma env mem).Post (fun w m => match isB w with | some true => Q (.bl false) m | some false => Q (.bl true) m | none => False) ex := wp_boolE
@[simp] theorem wp_ifE {t : BM} : (ifE t ma mb env mem).Post Q ex = (t env mem).Post (fun b m => if b = true then (ma env m).Post Q ex else (mb env m).Post Q ex) ex := by
  unfold ifE
  rw [wp_bind]
  congr 1
  funext b m
  cases b <;> rfl
@[simp] theorem wp_tB {Q : Bool → Mem → Prop} : (tB ma env mem).Post Q ex = (ma env mem).Post (fun w m => match isB w with | some b => Q b m | none => False) ex := by
  unfold tB
  rw [wp_bind]
  congr 1
  funext w m
  cases w <;> rfl
@[simp] theorem wp_andB {a b : BM} {Q : Bool → Mem → Prop} : (andB a b env mem).Post Q ex = (a env mem).Post (fun x m => if x = true then (b env m).Post Q ex else Q false m) ex := by
  unfold andB
  rw [wp_bind]
  congr 1
  funext x m
  cases x <;> rfl
@[simp] theorem wp_orB {a b : BM} {Q : Bool → Mem → Prop} : (orB a b env mem).Post Q ex = (a env mem).Post (fun x m => if x = true then Q true m else (b env m).Post Q ex) ex := by
  unfold orB
  rw [wp_bind]
  congr 1
  funext x m
  cases x <;> rfl
@[simp] theorem wp_notB {a : BM} {Q : Bool → Mem → Prop} : (notB a env mem).Post Q ex = (a env mem).Post (fun x m => Q (!x) m) ex := by
  unfold notB
  simp
@[simp] theorem wp_chain {f g : Op2} : (chainE f g ma mb mc env mem).Post Q ex = (ma env mem).Post (fun x m => (mb env m).Post (fun y m => (lift (f x y m)).Post (fun z m => match isB z with | some true => (mc env m).Post (fun w m => (lift (g y w m)).Post Q ex) ex | some false => Q (.bl false) m | none => False) ex) ex) ex := by
  unfold chainE
  simp only [wp_bind]
  congr 1
  funext x m
  congr 1
  funext y m
  congr 1
  funext z m
  cases isB z with
  | none => rfl
  | some b =>
    cases b with
    | true => simp
    | false => rfl
@[simp] theorem wp_optN {Q : Option Int → Mem → Prop} : (optE none env mem).Post Q ex = Q none mem := rfl
@[simp] theorem wp_optS {Q : Option Int → Mem → Prop} : (optE (some ma) env mem).Post Q ex = (ma env mem).Post (fun w m => match w with | .int i => Q (some i) m | _ => False) ex := by
  unfold optE
  rw [wp_bind]
  congr 1
  funext w m
  cases w <;> rfl
@[simp] theorem wp_slice {lo hi : Option EM} : (sliceE ma lo hi env mem).Post Q ex = (ma env mem).Post (fun x m => (optE lo env m).Post (fun l m => (optE hi env m).Post (fun h m => (lift (slV l h x m)).Post Q ex) ex) ex) ex := by
  unfold sliceE
  simp
@[simp] theorem wp_meth {chk : W → Mem → Bool} {f : OpM} : (methE chk f ma as env mem).Post Q ex = (ma env mem).Post (fun x m => chk x m = true ∧ (as env m).Post (fun xs m => (lift (f x xs m)).Post Q ex) ex) ex := by
  unfold methE
  rw [wp_bind]
  congr 1
  funext x m
  by_cases h : chk x m = true
  · rw [if_pos h]; simp [h]
  · rw [if_neg h]; simp [h]
@[simp] theorem wp_lr : (lrE ma env mem).Post Q ex = (ma env mem).Post (fun w m => match w with | .int n => (0 ≤ n ∧ n ≤ 16777216) ∧ Q (.loc m.length) (m ++ [.lst (rgW n)]) | _ => False) ex := by
  unfold lrE
  rw [wp_bind]
  congr 1
  funext w m
  cases w with
  | int n =>
    by_cases h : 0 ≤ n ∧ n ≤ 16777216
    · dsimp only; rw [if_pos h]; simp [h]
    · dsimp only; rw [if_neg h]; simp [h]
  | _ => rfl
@[simp] theorem wp_lc {it : IM} {g : GM} {t : BM} {e : EM} {vs : List Nat} : (lcE it g t e vs env mem).Post Q ex = (it env mem).Post (fun wk m => match lcLoop wk.nx g t e vs m.length env wk.k 0 (m ++ [.lst []]) with | some m' => Q (.loc m.length) m' | none => False) ex := by
  unfold lcE
  rw [wp_bind]
  congr 1
  funext wk m
  cases lcLoop wk.nx g t e vs m.length env wk.k 0 (m ++ [.lst []]) <;> rfl
@[simp] theorem wp_seqI {Q : Walk → Mem → Prop} : (seqI ma env mem).Post Q ex = (ma env mem).Post (fun w m => match walkOf w m with | some wk => Q wk m | none => False) ex := by
  unfold seqI
  rw [wp_bind]
  congr 1
  funext w m
  cases walkOf w m <;> rfl
@[simp] theorem wp_rng1 {Q : Walk → Mem → Prop} : (rng1I as env mem).Post Q ex = (as env mem).Post (fun ws m => match ws with | [.int j] => (-(2 ^ 62) ≤ j ∧ j < 2 ^ 62) ∧ Q ⟨rngN 0 j.toNat, j.toNat⟩ m | _ => False) ex := by
  unfold rng1I
  rw [wp_bind]
  congr 1
  funext ws m
  split
  · rename_i j
    by_cases h : -(2 ^ 62) ≤ j ∧ j < 2 ^ 62
    · rw [if_pos h]; exact propext ⟨fun q => ⟨h, q⟩, fun q => q.2⟩
    · rw [if_neg h]; exact propext ⟨fun q => q.elim, fun q => (h q.1).elim⟩
  · rename_i hn
    first
      | rfl
      | (split
         · rename_i j; exact absurd rfl (hn j)
         · rfl)
end
/-! ### statements -/
section
variable {q : SQ} {mem : Mem} {env : VEnv} {m : EM} {s t : SS}
@[simp] theorem ws_ofE {α : Type} {m : VEnv → SM α} {k : α → SS} : (ofE m k env mem).Post q = (m env mem).Post (fun w m' => (k w env m').Post q) (fun x m' => q.ex x env m') := by
  unfold ofE
  cases m env mem <;> rfl
@[simp] theorem ws_seq : (seqS s t env mem).Post q = (s env mem).Post ⟨fun e m => (t e m).Post q, q.rt, q.bk, q.ct, q.ex⟩ := by
  unfold seqS
  cases s env mem <;> rfl
@[simp] theorem ws_next : (nextS env mem).Post q = q.nx env mem := rfl
@[simp] theorem ws_brk : (brkS env mem).Post q = q.bk env mem := rfl
@[simp] theorem ws_ct : (ctS env mem).Post q = q.ct env mem := rfl
@[simp] theorem ws_ret : (retS m env mem).Post q = (m env mem).Post q.rt (fun x m => q.ex x env m) := by
  unfold retS
  simp only [ws_ofE]
  rfl
@[simp] theorem ws_retN : (retNS env mem).Post q = q.rt .non mem := rfl
@[simp] theorem ws_drop : (dropS m env mem).Post q = (m env mem).Post (fun _ m => q.nx env m) (fun x m => q.ex x env m) := by
  unfold dropS
  simp only [ws_ofE]
  rfl
@[simp] theorem ws_set {i : Nat} : (setS i m env mem).Post q = (m env mem).Post (fun w m => q.nx (env.set i (some w)) m) (fun x m => q.ex x env m) := by
  unfold setS
  simp only [ws_ofE]
  rfl
@[simp] theorem ws_if {b : BM} : (ifS b s t env mem).Post q = (b env mem).Post (fun c m => if c = true then (s env m).Post q else (t env m).Post q) (fun x m => q.ex x env m) := by
  unfold ifS
  simp only [ws_ofE]
  congr 1
  funext c m
  cases c <;> rfl
@[simp] theorem ws_asg {g : GM} : (asgS m g env mem).Post q = (m env mem).Post (fun w m => (g w env m).Post (fun e m => q.nx e m) (fun _ _ => False)) (fun x m => q.ex x env m) := by
  unfold asgS
  simp only [ws_ofE]
  congr 1
  funext w m
  cases g w env m <;> rfl
@[simp] theorem ws_par {i j : Nat} {as : AM} : (parS i j as env mem).Post q = (as env mem).Post (fun ws m => match ws with | [v, w] => q.nx ((env.set i (some v)).set j (some w)) m | _ => False) (fun x m => q.ex x env m) := by
  unfold parS
  simp only [ws_ofE]
  congr 1
  funext ws m
  match ws with
  | [] => rfl
  | [_] => rfl
  | [_, _] => rfl
  | _ :: _ :: _ :: _ => rfl
@[simp] theorem ws_aug {i : Nat} {f : Op2} : (augS i f m env mem).Post q = (bin f (varE i) m env mem).Post (fun w m => q.nx (env.set i (some w)) m) (fun x m => q.ex x env m) := by
  unfold augS
  simp only [ws_ofE]
  rfl
@[simp] theorem ws_for {it : IM} {g : GM} : (forS it g s env mem).Post q = (it env mem).Post (fun wk m => (loopS wk.nx g s wk.k 0 env m).Post q) (fun x m => q.ex x env m) := by
  unfold forS
  simp only [ws_ofE]
@[simp] theorem wg_name {i : Nat} {w : W} {Q : VEnv → Mem → Prop} {ex : Exc → Mem → Prop} : (nameG i w env mem).Post Q ex = Q (env.set i (some w)) mem := rfl
@[simp] theorem wg_nil {ws : List W} {Q : VEnv → Mem → Prop} {ex : Exc → Mem → Prop} : (nilG ws env mem).Post Q ex = (match ws with | [] => Q env mem | _ => False) := by
  unfold nilG
  cases ws <;> rfl
@[simp] theorem wg_cons {g : GM} {r : GMs} {ws : List W} {Q : VEnv → Mem → Prop} {ex : Exc → Mem → Prop} : (consG g r ws env mem).Post Q ex = (match ws with | w :: t => (g w env mem).Post (fun e m => (r t e m).Post Q ex) ex | [] => False) := by
  unfold consG
  cases ws with
  | nil => rfl
  | cons w t => exact wp_bind
@[simp] theorem wg_tup {n : Nat} {g : GMs} {w : W} {Q : VEnv → Mem → Prop} {ex : Exc → Mem → Prop} : (tupG n g w env mem).Post Q ex = (match w with | .tup ws => ws.length = n ∧ (g ws env mem).Post Q ex | _ => False) := by
  unfold tupG
  cases w with
  | tup ws =>
    by_cases h : ws.length = n
    · dsimp only; rw [if_pos h]; simp [h]
    · dsimp only; rw [if_neg h]; simp [h]
  | _ => rfl
@[simp] theorem wg_seq {n : Nat} {g : GMs} {w : W} {Q : VEnv → Mem → Prop} {ex : Exc → Mem → Prop} : (seqG n g w env mem).Post Q ex = (match itemsOf mem w with | some ws => ws.length = n ∧ (g ws env mem).Post Q ex | none => False) := by
  unfold seqG
  cases itemsOf mem w with
  | none => rfl
  | some ws =>
    by_cases h : ws.length = n
    · dsimp only; rw [if_pos h]; simp [h]
    · dsimp only; rw [if_neg h]; simp [h]
@[simp] theorem wg_sub {f : OpSet} {mo mi : EM} {w : W} {Q : VEnv → Mem → Prop} {ex : Exc → Mem → Prop} : (subG f mo mi w env mem).Post Q ex = (mo env mem).Post (fun o m => (mi env m).Post (fun i m => match f o i w m with | some m' => Q env m' | none => False) ex) ex := by
  unfold subG
  simp only [wp_bind]
  congr 1
  funext o m
  congr 1
  funext i m
  cases f o i w m <;> rfl
@[simp] theorem wr_run {n : Nat} {ws : List W} {Q : W → Mem → Prop} {ex : Exc → Mem → Prop} : (runB n s ws mem).Post Q ex = (s (startE n ws) mem).Post ⟨fun _ m => Q .non m, Q, fun _ _ => False, fun _ _ => False, fun x _ m => ex x m⟩ := by
  unfold runB
  cases s (startE n ws) mem <;> rfl
end
/-! ### loops -/
section
variable {nx : Nxt} {g : GM} {body : SS} {q : SQ}
/-- a loop over the items xs of a thing that stands still while J stands -/
theorem ws_loop (xs : List W) (J : Nat → VEnv → Mem → Prop) (hn : ∀ i env mem, i ≤ xs.length → J i env mem → nx i mem = some xs[i]?) {env : VEnv} {mem : Mem} (h0 : J 0 env mem)
    (hs : ∀ i x env mem, xs[i]? = some x → J i env mem → (g x env mem).Post (fun e1 m1 => (body e1 m1).Post ⟨J (i + 1), q.rt, q.nx, J (i + 1), q.ex⟩) (fun _ _ => False))
    (hd : ∀ env mem, J xs.length env mem → q.nx env mem) : (loopS nx g body xs.length 0 env mem).Post q := by
  have key : ∀ (k i : Nat) (env : VEnv) (mem : Mem), i + k = xs.length → J i env mem → (loopS nx g body k i env mem).Post q := by
    intro k
    induction k with
    | zero =>
      intro i env mem e j
      have hi : i = xs.length := by omega
      subst hi
      unfold loopS
      rw [hn _ _ _ (Nat.le_refl _) j, List.getElem?_eq_none (Nat.le_refl _)]
      exact hd _ _ j
    | succ k ih =>
      intro i env mem e j
      have hi : i < xs.length := by omega
      unfold loopS
      rw [hn _ _ _ (Nat.le_of_lt hi) j, List.getElem?_eq_getElem hi]
      have h1 := hs i xs[i] env mem (List.getElem?_eq_getElem hi) j
      dsimp only
      cases eg : g xs[i] env mem with
      | ok e1 m1 =>
        rw [eg] at h1
        have h2 : (body e1 m1).Post ⟨J (i + 1), q.rt, q.nx, J (i + 1), q.ex⟩ := h1
        dsimp only
        cases eb : body e1 m1 with
        | nx e m => rw [eb] at h2; exact ih (i + 1) e m (by omega) h2
        | ct e m => rw [eb] at h2; exact ih (i + 1) e m (by omega) h2
        | bk e m => rw [eb] at h2; exact h2
        | rt w m => rw [eb] at h2; exact h2
        | exc x e m => rw [eb] at h2; exact h2
        | bad => rw [eb] at h2; exact h2
      | exc x m => rw [eg] at h1; exact h1.elim
      | bad => rw [eg] at h1; exact h1.elim
  exact key xs.length 0 env mem (by omega) h0
/-- for k in range(lo, lo + n) -/
theorem ws_range {lo : Int} (n : Nat) (J : Nat → VEnv → Mem → Prop) {env : VEnv} {mem : Mem} (h0 : J 0 env mem)
    (hs : ∀ i env mem, i < n → J i env mem → (g (.int (lo + i)) env mem).Post (fun e1 m1 => (body e1 m1).Post ⟨J (i + 1), q.rt, q.nx, J (i + 1), q.ex⟩) (fun _ _ => False))
    (hd : ∀ env mem, J n env mem → q.nx env mem) : (loopS (rngN lo n) g body n 0 env mem).Post q := by
  have h := ws_loop (nx := rngN lo n) (g := g) (body := body) (q := q) ((List.range n).map fun i => W.int (lo + (i : Nat))) J (fun i env mem hi _ => by
    rw [List.length_map, List.length_range] at hi
    unfold rngN
    rw [List.getElem?_map]
    by_cases hl : i < n
    · rw [if_pos hl, List.getElem?_range hl]; rfl
    · rw [if_neg hl, List.getElem?_eq_none (by rw [List.length_range]; omega)]; rfl) h0 (fun i x env mem hx j => by
    rw [List.getElem?_map] at hx
    by_cases hl : i < n
    · rw [List.getElem?_range hl] at hx
      cases hx
      exact hs i env mem hl j
    · rw [List.getElem?_eq_none (by rw [List.length_range]; omega)] at hx
      cases hx) (fun env mem j => hd env mem (by rw [List.length_map, List.length_range] at j; exact j))
  rw [List.length_map, List.length_range] at h
  exact h
/-- a comprehension's turns, the list at D -/
theorem lc_loop {nx : Nxt} {g : GM} {t : BM} {e : EM} {vs : List Nat} {D : Nat} {env : VEnv} {Q : Mem → Prop} (xs : List W) (J : Nat → Mem → Prop) (hn : ∀ i mem, i ≤ xs.length → J i mem → nx i mem = some xs[i]?) {mem : Mem} (h0 : J 0 mem)
    (hs : ∀ i x mem, xs[i]? = some x → J i mem → (g x (wipeE env vs) mem).Post (fun e1 m1 => (t e1 m1).Post (fun b m2 => if b = true then (e e1 m2).Post (fun w m3 => ∃ acc, listAt m3 D = some acc ∧ acc.length < sizeLine ∧ J (i + 1) (m3.set D (.lst (acc ++ [w])))) (fun _ _ => False) else J (i + 1) m2) (fun _ _ => False)) (fun _ _ => False))
    (hd : ∀ mem, J xs.length mem → Q mem) : ∃ m, lcLoop nx g t e vs D env xs.length 0 mem = some m ∧ Q m := by
  have key : ∀ (k i : Nat) (mem : Mem), i + k = xs.length → J i mem → ∃ m, lcLoop nx g t e vs D env k i mem = some m ∧ Q m := by
    intro k
    induction k with
    | zero =>
      intro i mem e j
      have hi : i = xs.length := by omega
      subst hi
      unfold lcLoop
      rw [hn _ _ (Nat.le_refl _) j, List.getElem?_eq_none (Nat.le_refl _)]
      exact ⟨mem, rfl, hd _ j⟩
    | succ k ih =>
      intro i mem ee j
      have hi : i < xs.length := by omega
      unfold lcLoop
      rw [hn _ _ (Nat.le_of_lt hi) j, List.getElem?_eq_getElem hi]
      have h1 := hs i xs[i] mem (List.getElem?_eq_getElem hi) j
      dsimp only
      cases eg : g xs[i] (wipeE env vs) mem with
      | exc x m => rw [eg] at h1; exact h1.elim
      | bad => rw [eg] at h1; exact h1.elim
      | ok e1 m1 =>
        rw [eg] at h1
        have h2 : (t e1 m1).Post (fun b m2 => if b = true then (e e1 m2).Post (fun w m3 => ∃ acc, listAt m3 D = some acc ∧ acc.length < sizeLine ∧ J (i + 1) (m3.set D (.lst (acc ++ [w])))) (fun _ _ => False) else J (i + 1) m2) (fun _ _ => False) := h1
        dsimp only
        cases et : t e1 m1 with
        | exc x m => rw [et] at h2; exact h2.elim
        | bad => rw [et] at h2; exact h2.elim
        | ok b m2 =>
          rw [et] at h2
          cases b with
          | false => exact ih (i + 1) m2 (by omega) h2
          | true =>
            have h3 : (e e1 m2).Post (fun w m3 => ∃ acc, listAt m3 D = some acc ∧ acc.length < sizeLine ∧ J (i + 1) (m3.set D (.lst (acc ++ [w])))) (fun _ _ => False) := h2
            dsimp only
            cases ev : e e1 m2 with
            | exc x m => rw [ev] at h3; exact h3.elim
            | bad => rw [ev] at h3; exact h3.elim
            | ok w m3 =>
              rw [ev] at h3
              obtain ⟨acc, ha, hz, hj⟩ := h3
              dsimp only
              rw [ha]
              dsimp only
              rw [if_pos hz]
              exact ih (i + 1) _ (by omega) hj
  exact key xs.length 0 mem (by omega) h0
end
end Sh
set_option linter.all false
set_option maxRecDepth 100000
set_option
        maxHeartbeats 4000000
/-! Sh11: how many different members a list has. -/
namespace Sh
open PySem PySem.Spec
        PyProof.Rows L2
/-- how many different members -/
def dcount {α : Type} [DecidableEq α] : List α → Nat
  | [] => 0
  | x :: xs => if x ∈ xs then dcount xs else dcount xs + 1
section
variable {α : Type}
        [DecidableEq α]
theorem dcount_le : ∀ l : List α, dcount l ≤ l.length
  | [] => Nat.le_refl _
  | x :: xs => by
    have ih := dcount_le xs
    unfold dcount
    rw [List.length_cons]
    split <;> omega
theorem dcount_nodup : ∀ l : List α, (dcount l == l.length) = decide l.Nodup
  | [] => rfl
  | x :: xs => by
    have ih := dcount_nodup xs
    have le := dcount_le xs
    unfold dcount
    rw [List.length_cons]
    by_cases h : x ∈ xs
    · rw [if_pos h, decide_eq_false (fun n => (List.nodup_cons.mp n).1 h), beq_eq_false_iff_ne]
      omega
    · rw [if_neg h]
      rw [Bool.eq_iff_iff, beq_iff_eq, decide_eq_true_iff] at ih
      rw [Bool.eq_iff_iff, beq_iff_eq, decide_eq_true_iff, List.nodup_cons]
      refine ⟨fun e => ⟨h, ih.mp (by omega)⟩, fun e => by have := ih.mpr e.2; omega⟩
/-- a list without doubles that has the same members has as many -/
theorem dcount_same : ∀ {l L : List α}, L.Nodup → (∀ x, x ∈ L ↔ x ∈ l) → L.length = dcount l := by
  intro l
  induction l with
  | nil =>
    intro L n h
    cases L with
    | nil => rfl
    | cons x L => exact absurd ((h x).mp List.mem_cons_self) (by intro z; cases z)
  | cons x xs ih =>
    intro L n h
    unfold dcount
    by_cases hx : x ∈ xs
    · rw [if_pos hx]
      exact ih n fun y => (h y).trans ⟨fun z => (List.mem_cons.mp z).elim (fun e => e ▸ hx) id, List.mem_cons_of_mem _⟩
    · rw [if_neg hx]
      have hL : x ∈ L := (h x).mpr List.mem_cons_self
      have n2 : (L.erase x).Nodup := n.erase x
      have := ih n2 fun y => by
        rw [n.mem_erase_iff, h y, List.mem_cons]
        refine ⟨fun ⟨a, b⟩ => b.elim (fun e => absurd e a) id, fun b => ⟨fun e => hx (e ▸ b), .inr b⟩⟩
      rw [← this, List.length_erase_of_mem hL]
      have := List.length_pos_of_mem hL
      omega
end
def keyS : W → Option (Int ⊕ Str)
  | .int i => some (.inl i)
  | .str z => some (.inr z)
  | _ => none
def intW : W → Option Int
  | .int i => some i
  | _ => none
def tupW : W → Option (List (Int ⊕ Str))
  | .tup xs => if xs.length < 20 then xs.mapM keyS else none
  | _ => none
/-- len(set(xs)), xs a list of ints, or of tuples of ints and texts -/
def lenSetV : OpN := fun ws mem => match ws with
  | [.loc n] => (listAt mem n).bind fun xs => if xs.length < 60 then match xs.mapM intW with
      | some is => some (.int (dcount is : Nat), mem)
      | none => match xs.mapM tupW with
        | some ts => some (.int (dcount ts : Nat), mem)
        | none => none
    else none
  | _ => none
end Sh
set_option linter.all false
set_option maxRecDepth 100000
set_option
        maxHeartbeats 4000000
/-! Sh12: sets of tuples of ints and texts. -/
namespace Sh
open PySem PySem.Spec
        PyProof.Rows L2
/-- the tuple at a has these ints and texts -/
abbrev MT (P : Program) (w : World) (h : Heap) (k : List Key) (a : Addr) : Prop := IsTupleKey (mixKind P w) h k a
abbrev mh (P : Program) (w : World) (k : List Key) : Int := tupleKeyHash (mixKind P w) k
def Flat2 (v : Value) : Prop := (∃ i t, v = .int i t) ∨ ∃ x t, v = .str x t
theorem flat2_of {P : Program} {w : World} {k : List Key} {vs : List Value} (h : ItemsAre (mixKind P w) k vs) : ∀ v ∈ vs, Flat2 v := by
  induction h with
  | nil => intro v m; cases m
  | @cons k0 u ks us e _ ih =>
    intro v m
    rcases List.mem_cons.mp m with rfl | m
    · have e' : keyIs k0 v = true := e
      cases k0 with
      | inl i => exact .inl ⟨i, Value.isInt_shape e'⟩
      | inr x => exact .inr ⟨x, Value.isStrOf_shape e'⟩
    · exact ih v m
theorem flat2_class {v : Value} (h : Flat2 v) (n : Nat) : ofAClassStatement n v = pure false := by
  rcases h with ⟨i, t, rfl⟩ | ⟨x, t, rfl⟩ <;> cases n <;> rfl
theorem flat2_hash {v : Value} (h : Flat2 v) (n : Nat) : ∃ b, hashByValue n v = pure b := by
  rcases h with ⟨i, t, rfl⟩ | ⟨x, t, rfl⟩
  · exact ⟨true, by cases n <;> rfl⟩
  · exact ⟨false, by cases n <;> rfl⟩
section
variable {P : Program} {w : World} {A : Around} {E : Value → Shared → Prop} {s : Shared} {k : List Key} {b : Addr} {Q : Bool → Shared → Prop}
theorem mt_class (hk : MT P w s.heap k b) (q : Q false s) : wpAny (model P w) A (ofAClassStatement 8 (.ref b)) Q E s := by
  have ty := hk.typeIs
  obtain ⟨o, its, n, ho, _, hd, hi⟩ := hk
  have fl := flat2_of hi
  unfold ofAClassStatement
  refine wpAny_bind (wpAny_typeOf ty ?_)
  dsimp only
  simp only [show (("tuple" : String) == "tuple") = true by decide, if_true, Bool.not_true, Bool.false_eq_true, if_false]
  try refine wpAny_bind
          (wpAny_pure ?_)
  try simp only [Bool.not_true,
          Bool.false_eq_true, if_false]
  refine wpAny_bind (m := seqItems? (.ref b)) (wpAny_seqItems ho hd ?_)
  dsimp only
  refine wpAny_bind (m := forIn its _ _) ?_
  rw [← Array.forIn_toList]
  refine wpAny_forIn_list _ (fun l r u => r.1 = none ∧ u = s ∧ ∀ v ∈ l, Flat2 v) _ ?step ?done _ _ ⟨rfl, rfl, fl⟩
  case step =>
    rintro v l r u ⟨hr, rfl, all⟩
    rw [flat2_class (all v List.mem_cons_self)]
    refine wpAny_bind
            (wpAny_pure ?_)
    simp only [Bool.false_eq_true,
            if_false]
    exact wpAny_pure ⟨rfl, rfl, fun x m => all x (List.mem_cons_of_mem _ m)⟩
  case done =>
    rintro ⟨r1, r2⟩ u ⟨hr, rfl, _⟩
    simp only at hr
    subst hr
    exact wpAny_pure q
theorem mt_hash (hk : MT P w s.heap k b) (q : ∀ y, Q y s) : wpAny (model P w) A (hashByValue 8 (.ref b)) Q E s := by
  have ty := hk.typeIs
  obtain ⟨o, its, n, ho, _, hd, hi⟩ := hk
  have fl := flat2_of hi
  unfold hashByValue
  refine wpAny_bind (wpAny_specialOf ty F.slot_tuple_hash.lookup ?_)
  refine wpAny_bind (m := seqItems? (.ref b)) (wpAny_seqItems ho hd ?_)
  refine wpAny_bind (m := forIn its _ _) ?_
  rw [← Array.forIn_toList]
  refine wpAny_forIn_list _ (fun l r u => r.1 = none ∧ u = s ∧ ∀ v ∈ l, Flat2 v) _ ?step ?done _ _ ⟨rfl, rfl, fl⟩
  case step =>
    rintro v l r u ⟨hr, rfl, all⟩
    obtain ⟨y, e⟩ := flat2_hash (all v List.mem_cons_self) 7
    rw [e]
    refine wpAny_bind
            (wpAny_pure ?_)
    cases y with
    | true =>
      simp only [Bool.not_true,
              Bool.false_eq_true, if_false]
      exact wpAny_pure ⟨rfl, rfl, fun x m => all x (List.mem_cons_of_mem _ m)⟩
    | false =>
      simp only
              [Bool.not_false, if_true]
      exact wpAny_pure (wpAny_pure (q _))
  case done =>
    rintro ⟨r1, r2⟩ u ⟨hr, rfl, _⟩
    simp only at hr
    subst hr
    exact wpAny_pure (q _)
/-- a search among such tuples shows nothing -/
theorem mt_seen (hk : MT P w s.heap k b) {ys : List Value} (hy : ∀ y ∈ ys, ∃ k2 c, y = Value.ref c ∧ MT P w s.heap k2 c) (q : Q false s) : wpAny (model P w) A (searchCouldBeSeen (.ref b) ys) Q E s := by
  unfold searchCouldBeSeen
  refine wpAny_bind ?_
  refine wpAny_forIn_list _ (fun l r u => r.1 = none ∧ u = s ∧ ∀ y ∈ l, ∃ k2 c, y = Value.ref c ∧ MT P w s.heap k2 c) _ ?step ?done _ _ ⟨rfl, rfl, hy⟩
  case step =>
    rintro v l r u ⟨hr, rfl, all⟩
    obtain ⟨k2, c, rfl, hc⟩ := all v List.mem_cons_self
    have all2 : ∀ y ∈ l, ∃ k2 c, y = Value.ref c ∧ MT P w u.heap k2 c := fun y m => all y (List.mem_cons_of_mem _ m)
    dsimp only
    by_cases very : (b == c || (carriedByValue (.ref b) && carriedByValue (.ref c))) = true
    · exact wp_if_pos very (wpAny_pure ⟨rfl, rfl, all2⟩)
    · refine wp_if_neg very (wpAny_bind (wpAny_eqIsQuiet_tuple hk ?_))
      simp only [Bool.not_true,
              Bool.false_eq_true, if_false]
      refine wpAny_bind
              (wpAny_eqIsQuiet_tuple hc ?_)
      simp only [Bool.not_true,
              Bool.false_eq_true, if_false]
      refine wpAny_bind (mt_class hk ?_)
      simp only [Bool.false_eq_true,
              if_false]
      refine wpAny_bind (mt_class hc ?_)
      simp only [Bool.false_eq_true,
              if_false]
      exact wpAny_pure ⟨rfl, rfl, all2⟩
  case done =>
    rintro ⟨r1, r2⟩ u ⟨hr, rfl, _⟩
    simp only at hr
    subst hr
    exact wpAny_pure q
end
/-! ### the set -/
def rowM (P : Program) (w : World) (p : Addr × List Key) : Int × Value := (mh P w p.2, .ref p.1)
def hsM (P : Program) (w : World) (L : List (Addr × List Key)) : List Int := L.map fun p => mh P w p.2
structure SR (P : Program) (w : World) (h : Heap) (a : Addr) (L : List (Addr × List Key)) (es : Array (Int × Value)) (ep : Nat) (t : SetTable) : Prop where
  obj : ∃ o, h.get? a = some o ∧ o.ExactSet ∧ o.data = .set es ep t
  ent : es.toList = L.map (rowM P w)
  tab : TabOk t (hsM P w L)
  nd : (L.map Prod.snd).Nodup
  mem : ∀ p ∈ L, MT P w h p.2 p.1
  led : w.params.followText
          "set-order" = true ∨ t.led = true
  room : L.length
          * 5 < t.mask * 3
section
variable {P : Program} {w : World} {A : Around} {E : Value → Shared → Prop} {s : Shared} {a : Addr} {L : List (Addr × List Key)} {es : Array (Int × Value)} {ep : Nat} {t : SetTable}
theorem hsM_len : (hsM P w L).length = L.length := List.length_map _
theorem SR.size (r : SR P w s.heap a L es ep t) : es.size = L.length := by
  rw [← Array.length_toList, r.ent, List.length_map]
theorem SR.place (r : SR P w s.heap a L es ep t) : t.place.size = L.length := by rw [r.tab.sz, hsM_len]
theorem SR.fits (r : SR P w s.heap a L es ep t) : t.fits es.size = true := by
  have h1 := r.place
  have h2 := r.size
  have h3 := r.room
  unfold SetTable.fits
          SetTable.fill
  rw [r.tab.dm, Bool.and_eq_true]
  refine ⟨beq_iff_eq.mpr (h1.trans h2.symm), decide_eq_true ?_⟩
  show t.place.size + 0 ≤ t.mask
  omega
theorem SR.at (r : SR P w s.heap a L es ep t) {i : Nat} {p : Addr × List Key} (h : L[i]? = some p) : es[i]? = some (mh P w p.2, Value.ref p.1) := by
  rw [← Array.getElem?_toList, r.ent, List.getElem?_map, h]
  rfl
theorem SR.stays (r : SR P w s.heap a L es ep t) : ¬t.gaveWay = true := by
  unfold SetTable.gaveWay
  rw [mask_odd r.tab.mok]
  decide
/-- the probe behind c steps -/
abbrev stp (t : SetTable) (h : Int) (c : Nat) : SetTable.Probe := L2.nth t.mask (runAt t.mask (SetTable.bits h % (t.mask + 1)) (SetTable.bits h)) c
theorem stp_clean (t : SetTable) (h : Int) (c : Nat) : (stp t h c).dummy = none := by
  have go : ∀ (n : Nat) (p : SetTable.Probe), p.dummy = none → (L2.nth t.mask p n).dummy = none := fun n => by
    induction n with
    | zero => exact fun _ e => e
    | succ n ih =>
      intro p e
      refine ih _ ?_
      unfold adv
      split
      · exact e
      · exact e
  exact go c _ rfl
theorem stp_add (t : SetTable) (h : Int) (c q : Nat) : L2.nth t.mask (stp t h c) q = stp t h (c + q) := (nth_add t.mask c _ q).symm
theorem sr_search (r : SR P w s.heap a L es ep t) {x : Addr} {k : List Key} (hx : MT P w s.heap k x) (hu : A.units < cLine) {K : Nat} (hKf : K < 10 * SetTable.turns t.mask)
    (hK : way t.mask (mh P w k) K ∉ t.place.toList) (hKb : ∀ c, c < K → way t.mask (mh P w k) c ∈ t.place.toList) {Q : SetFound → Shared → Prop}
    (qin : k ∈ L.map Prod.snd → Q (.there none) s) (qout : k ∉ L.map Prod.snd → Q (.free (way t.mask (mh P w k) K) false) s) :
    ∀ (f c : Nat) (stand : Option SetTable.Probe), stand.getD (t.probeStart (mh P w k)) = stp t (mh P w k) c → c ≤ K → K - c < f →
      (∀ (i : Nat) p, L[i]? = some p → p.2 = k → ∃ d, c ≤ d ∧ d < K ∧ t.place.toList[i]? = some (way t.mask (mh P w k) d)) →
      wpAny (model P w) A (setSearchFrom a (.ref x) (mh P w k) true f stand) Q E s := by
  obtain ⟨o, ho, hex, hd⟩ := r.obj
  intro f
  induction f with
  | zero => exact fun c stand _ _ hf _ => absurd hf (Nat.not_lt_zero _)
  | succ f ih =>
    intro c stand hst hc hf ahead
    rw [setSearchFrom_succ]
    refine wpAny_bind (wpAny_setState_of ho hd r.fits ?_)
    dsimp only
    refine wp_if_neg r.stays ?_
    try refine wpAny_bind
            (wpAny_pure ?_)
    have slot_at : ∀ q, (L2.nth t.mask (stp t (mh P w k) c) q).j = way t.mask (mh P w k) (c + q) := fun q => congrArg SetTable.Probe.j (stp_add t _ c q)
    have hashes : ∀ (i : Nat) p, L[i]? = some p → (fun i => (es[i]?.map (·.1)).getD 0) i = mh P w p.2 := fun i p hp => by
      show (es[i]?.map
              (·.1)).getD 0 = _
      rw [r.at hp]
      rfl
    have seen := go_spec t r.tab.ris r.tab.dm (fun i => (es[i]?.map (·.1)).getD 0) (mh P w k) (10 * SetTable.turns t.mask) (K - c) _ (stp_clean t (mh P w k) c) (by omega)
      (fun q hq => by rw [slot_at]; exact hKb _ (by omega)) (by rw [slot_at, show c + (K - c) = K by omega]; exact hK)
    rcases seen with ⟨q, i, hq, hi, _, before, pr⟩ | ⟨before, pr⟩
    · rw [show t.probe (fun i => (es[i]?.map (·.1)).getD 0) (mh P w k) (stand.getD (t.probeStart (mh P w k))) = some (.candidate (way t.mask (mh P w k) (c + q)) i (stp t (mh P w k) (c + (q + 1)))) by
        rw [hst, ← slot_at, ← stp_add]; exact pr]
      dsimp only
      rw [slot_at] at hi
      have il : i < L.length := by
        have :=
                (List.getElem?_eq_some_iff.mp hi).1
        rw [Array.length_toList, r.place] at this
        exact this
      obtain ⟨p, hp⟩ : ∃ p, L[i]? = some p := ⟨_, List.getElem?_eq_getElem il⟩
      have pm := List.mem_of_getElem? hp
      have more : wpAny (model P w) A (searchRest a (.ref x) (mh P w k) true f es t (way t.mask (mh P w k) (c + q)) i (stp t (mh P w k) (c + (q + 1)))) Q E s := by
        unfold searchRest
        rw [r.at hp]
        dsimp only
        refine wpAny_bind (wpAny_holding (wpAny_eqBool_tuple hu (r.mem p pm) hx ?_))
        refine wpAny_bind (wpAny_setState_of ho hd r.fits ?_)
        dsimp only
        by_cases same : p.2 = k
        · exact wp_if_pos (by simp [same]) (wpAny_pure (qin (List.mem_map.mpr ⟨p, pm, same⟩)))
        · refine wp_if_neg (by simp [same]) ?_
          try refine wpAny_bind
                  (wpAny_pure ?_)
          rw [sameMem]
          dsimp only
          have live : t.slot (way t.mask (mh P w k) (c + q)) = .live i := slot_live r.tab.ris hi
          simp only [if_true, live, r.at hp]
          refine wpAny_bind (wpAny_isSame_ref_self
                  (wpAny_bind (wpAny_pure ?_)))
          simp only [if_true]
          refine wp_if_neg (by simp [same]) ?_
          refine ih (c + (q + 1)) _ rfl (by omega) (by omega) fun i2 p2 hp2 e2 => ?_
          obtain ⟨d, d1, d2, d3⟩ := ahead i2 p2 hp2 e2
          refine ⟨d, ?_, d2, d3⟩
          rcases Nat.lt_trichotomy d (c + q) with z | z | z
          · have hne := before (d - c) i2 (by omega) (by rw [slot_at, show c + (d - c) = d by omega]; exact d3)
            exact absurd ((hashes i2 p2 hp2).trans (congrArg (mh P w) e2)) hne
          · rw [z] at d3
            have l2 := slot_live r.tab.ris d3
            rw [live] at l2
            injection l2 with l2
            rw [← l2, hp] at hp2
            cases hp2
            exact absurd e2 same
          · omega
      by_cases hl : t.led = true
      · refine wp_if_neg
              (by simp [hl]) ?_
        try refine wpAny_bind
                (wpAny_pure ?_)
        exact more
      · refine wp_if_pos (by simp [hl]) (wpAny_bind (mt_seen hx (fun y hy => ?_) ?_))
        · obtain ⟨e, he, rfl⟩ := List.mem_map.mp hy
          have e2 : e ∈ es.toList := by
            have : e ∈ es ∧ e.1 = mh P w k := by simpa using he
            simpa using this.1
          rw [r.ent] at e2
          obtain ⟨p2, m2, rfl⟩ := List.mem_map.mp e2
          exact ⟨p2.2, p2.1, rfl, r.mem p2 m2⟩
        · refine wp_if_neg
                (by decide) ?_
          try refine wpAny_bind
                  (wpAny_pure ?_)
          exact more
    · rw [show t.probe (fun i => (es[i]?.map (·.1)).getD 0) (mh P w k) (stand.getD (t.probeStart (mh P w k))) = some (.empty (way t.mask (mh P w k) K) none) by
        rw [hst, show way t.mask (mh P w k) K = (L2.nth t.mask (stp t (mh P w k) c) (K - c)).j by rw [slot_at, show c + (K - c) = K by omega]]; exact pr]
      dsimp only
      refine wpAny_pure (qout fun m => ?_)
      obtain ⟨p, hp, e⟩ :=
              List.mem_map.mp m
      obtain ⟨i, il, rfl⟩ := List.getElem_of_mem hp
      have hp2 := List.getElem?_eq_getElem il
      obtain ⟨d, d1, d2, d3⟩ := ahead i _ hp2 e
      have hne := before (d - c) i (by omega) (by rw [slot_at, show c + (d - c) = d by omega]; exact d3)
      exact hne ((hashes i _ hp2).trans (congrArg (mh P w) e))
theorem sr_find (r : SR P w s.heap a L es ep t) {x : Addr} {k : List Key} (hx : MT P w s.heap k x) (hu : A.units < cLine) {Q : SetFound → Shared → Prop}
    (qin : k ∈ L.map Prod.snd → Q (.there none) s)
    (qout : ∀ K, k ∉ L.map Prod.snd → way t.mask (mh P w k) K ∉ t.place.toList → (∀ c, c < K → way t.mask (mh P w k) c ∈ t.place.toList) → Q (.free (way t.mask (mh P w k) K) false) s) :
    wpAny (model P w) A (setSearch a (.ref x) (mh P w k) true) Q E s := by
  have room := r.room
  obtain ⟨K, hKf, hK, hKb⟩ := r.tab.first (by rw [hsM_len]; omega) (mh P w k)
  have small : 10 * SetTable.turns t.mask < 100000 := by
    unfold SetTable.turns
    rcases r.tab.mok with e | e | e <;> omega
  unfold setSearch
  refine sr_search r hx hu hKf hK hKb qin (fun n => qout K n hK hKb) 100000 0 none rfl (Nat.zero_le _) (by omega) fun i p hp e => ?_
  have hi : (hsM P w L)[i]? = some (mh P w k) := by
    unfold hsM
    rw [List.getElem?_map, hp, ← e]
    rfl
  have il : i < t.place.toList.length := by
    rw [Array.length_toList, r.place]
    exact (List.getElem?_eq_some_iff.mp hp).1
  have hj := List.getElem?_eq_getElem il
  obtain ⟨d, hd, e2⟩ := r.tab.before hK hi hj
  exact ⟨d, Nat.zero_le _, hd, by rw [hj, e2]⟩
/-! ### laying anew -/
theorem mt_same {h h' : Heap} {k : List Key} {b : Addr} {o : Obj} (x : MT P w h k b) (ho : h.get? a = some o) (hd : o.data = .set es ep t) (sb : Heap.SameBut a h h') : MT P w h' k b := by
  obtain ⟨o2, its, n, h1, h2, h3, h4⟩ := x
  refine ⟨o2, its, n, (sb.2 b ?_).trans h1, h2, h3, h4⟩
  rintro rfl
  rw [ho] at h1
  cases h1
  rw [hd] at h3
  cases h3
theorem rows_of (he : es.toList = L.map (rowM P w)) : ∀ l : List Nat, (∀ i ∈ l, i < L.length) →
    l.filterMap (fun i => es[i]?) = (l.map fun i => L.getD i (0, [])).map (rowM P w) ∧ hsM P w (l.map fun i => L.getD i (0, [])) = l.map fun i => (es.map (·.1)).getD i 0
  | [], _ => ⟨rfl, rfl⟩
  | i :: l, h => by
    obtain ⟨e1, e2⟩ := rows_of he l fun j m => h j (List.mem_cons_of_mem _ m)
    have hi := h i List.mem_cons_self
    have g : L.getD i (0, []) = L[i] := by rw [List.getD_eq_getElem?_getD, List.getElem?_eq_getElem hi]; rfl
    have ei : es[i]? = some (rowM P w L[i]) := by rw [← Array.getElem?_toList, he, List.getElem?_map, List.getElem?_eq_getElem hi]; rfl
    have em : (es.map (·.1)).getD i 0 = mh P w (L[i]).2 := by
      have : (es.map (·.1))[i]? = some (mh P w (L[i]).2) := by rw [Array.getElem?_map, ei]; rfl
      simp [Array.getD_eq_getD_getElem?, this]
    refine ⟨?_, ?_⟩
    · rw [List.filterMap_cons_some ei, e1, List.map_cons, List.map_cons, g]
    · unfold hsM at e2 ⊢
      rw [List.map_cons, List.map_cons, List.map_cons, e2, em, g]
theorem getD_all {α : Type} (L : List α) (d : α) : (List.range L.length).map (fun i => L.getD i d) = L := by
  refine List.ext_getElem (by rw [List.length_map, List.length_range]) fun i h1 h2 => ?_
  rw [List.getElem_map, List.getElem_range,
          List.getD_eq_getElem?_getD, List.getElem?_eq_getElem h2]
  rfl
theorem sr_relay {o : Obj} (ho : s.heap.get? a = some o) (hex : o.ExactSet) (hd : o.data = .set es ep t) (he : es.toList = L.map (rowM P w)) (hp : t.place.size = L.length) (hdm : t.dummies = #[]) (hfl : L.length ≤ t.mask)
    (nd : (L.map Prod.snd).Nodup) (mem : ∀ p ∈ L, MT P w s.heap p.2 p.1) (led : w.params.followText "set-order" = true ∨ t.led = true) {wanted M : Nat}
    (hw : SetTable.sizeAbove wanted - 1 = M) (hM : MaskOk M) (hbig : SetTable.sizeAbove wanted ≤ 128) (hn : L.length * 5 < M * 3) {Q : Unit → Shared → Prop}
    (q : ∀ h' L' es' ep' t', Heap.SameBut a s.heap h' → SR P w h' a L' es' ep' t' → L'.Perm L → Q () { s with heap := h' }) : wpAny (model P w) A (setRelay a wanted) Q E s := by
  have hsz : es.size = L.length := by rw [← Array.length_toList, he, List.length_map]
  have hfit : t.fits es.size = true := by
    unfold SetTable.fits
            SetTable.fill
    rw [hdm, Bool.and_eq_true]
    refine ⟨beq_iff_eq.mpr (hp.trans hsz.symm), decide_eq_true ?_⟩
    show t.place.size + 0 ≤ t.mask
    omega
  obtain ⟨t2, order, e, pm, T, em, el, _, ed⟩ := relaid_ok t (hs := es.map (·.1)) (wanted := wanted) hw hM (by rw [Array.size_map, hsz]; omega)
  rw [Array.size_map, hsz] at pm
  obtain ⟨r1, r2⟩ := rows_of he order.toList fun i m => List.mem_range.mp (pm.mem_iff.mp m)
  have lp : (order.toList.map fun i => L.getD i (0, [])).Perm L := by
    have := pm.map fun i => L.getD i (0, [])
    rw [getD_all] at this
    exact this
  rw [← r2] at T
  have r3 : (order.filterMap (es[·]?)).toList = (order.toList.map fun i => L.getD i (0, [])).map (rowM P w) := by
    rw [Array.toList_filterMap]
    exact r1
  have hs2 : (order.filterMap (es[·]?)).size = L.length := by rw [← Array.length_toList, r3, List.length_map, lp.length_eq]
  generalize (order.toList.map fun i => L.getD i (0, [])) = L2 at lp T r3
  rw [setRelay_eq]
  refine wpAny_bind (wpAny_setState_of ho hd hfit ?_)
  dsimp only
  refine wp_if_neg (by rw
          [sizeLine_eq]; omega) ?_
  try refine wpAny_bind
          (wpAny_pure ?_)
  rw [e]
  dsimp only
  refine wpAny_bind ?_
  refine wp_if_neg (by rw [hs2, hsz]; simp) ?_
  try refine wpAny_bind
          (wpAny_pure ?_)
  refine wpAny_pure ?_
  dsimp only
  generalize order.filterMap (es[·]?) = es2 at r3 hs2
  refine wpAny_storeSet_of ho hd ?_ (by rw [hs2, sizeLine_eq]; have := hM; rcases hM with z | z | z <;> omega)
  have sb : Heap.SameBut a s.heap (s.heap.update a (Obj.putSet es2 t2)) := Heap.SameBut.update ..
  refine q _ L2 es2 (ep + 1) t2 sb ⟨⟨_, store_at ho hd, ⟨hex.1, hex.2.1, hex.2.2⟩, rfl⟩, r3, T, (lp.map Prod.snd).nodup_iff.mpr nd, fun p m => mt_same (mem p (lp.mem_iff.mp m)) ho hd sb, by rw [el]; exact led, ?_⟩ lp
  rw [lp.length_eq, em]
  exact hn
/-! ### adding -/
theorem tab_plain {t : SetTable} {hs : List Int} (T : TabOk t hs) (y : Bool) : TabOk { t with plain := y } hs := ⟨T.ris, T.dm, T.sz, T.mok, T.bd, T.reach⟩
theorem perm_put {α : Type} (L : List α) (p : Nat) (x : α) : (L.take p ++ x :: L.drop p).Perm (x :: L) := by
  have := List.perm_middle (a := x) (l₁ := L.take p) (l₂ := L.drop p)
  rwa [List.take_append_drop] at this
theorem sr_add (r : SR P w s.heap a L es ep t) {x : Addr} {k : List Key} (hx : MT P w s.heap k x) (hu : A.units < cLine) (few : L.length + 1 < 64) {Q : Bool → Shared → Prop}
    (q : ∀ b h' L' es' ep' t', Heap.SameBut a s.heap h' → SR P w h' a L' es' ep' t' → (k ∈ L.map Prod.snd → L' = L) → (k ∉ L.map Prod.snd → L'.Perm ((x, k) :: L)) → Q b { s with heap := h' }) :
    wpAny (model P w) A (setAddHashed a (.ref x) (mh P w k)) Q E s := by
  obtain ⟨o, ho, hex, hd⟩ := r.obj
  have sz := r.size
  have room := r.room
  unfold setAddHashed
  refine wpAny_holding ?_
  rw [show (100000 : Nat) = 99999 +
          1 from rfl, setAddHashedIn_succ]
  refine wpAny_bind (wpAny_setState_of ho hd r.fits ?_)
  dsimp only
  refine wp_if_neg (by simp
          [byScan, Value.scannable]) ?_
  try refine wpAny_bind
          (wpAny_pure ?_)
  refine wpAny_bind (sr_find r hx hu (fun m => ?_) fun K m hK hb => ?_)
  · dsimp only
    exact wpAny_pure (q false s.heap L es ep t (Heap.SameBut.refl a s.heap) r (fun _ => rfl) fun z => absurd m z)
  dsimp only
  refine wpAny_bind (wpAny_setState_of ho hd r.fits ?_)
  dsimp only
  obtain ⟨g1, g2, g3, g4, g5, g6, g7, g8, g9⟩ := r.tab.put hK hb
  generalize hpt : t.put (way t.mask (mh P w k) K) = pt at g1 g3 g4 g5 g6 g7 g8 g9 ⊢
  obtain ⟨t1, p⟩ := pt
  dsimp only at g1 g3 g4 g5 g6 g7 g8 g9 ⊢
  subst g1
  generalize hpp : SetTable.below t.place (way t.mask (mh P w k) K) = p at g2 g3 ⊢
  have pm := perm_put L p (x, k)
  have ent1 : (SetTable.insertAt es p (mh P w k, Value.ref x)).toList = (L.take p ++ (x, k) :: L.drop p).map (rowM P w) := by
    rw [SetTable.toList_insertAt, r.ent, List.map_append, List.map_cons, List.map_take, List.map_drop]
    rfl
  have hs1 : (hsM P w L).take p ++ mh P w k :: (hsM P w L).drop p = hsM P w (L.take p ++ (x, k) :: L.drop p) := by
    unfold hsM
    rw [List.map_append, List.map_cons,
            List.map_take, List.map_drop]
  rw [hs1] at g3
  rw [hsM_len] at g9
  have len1 : (L.take p ++ (x, k) :: L.drop p).length = L.length + 1 := pm.length_eq
  generalize L.take p ++ (x, k) :: L.drop p = L1 at pm len1 g3 ent1
  generalize SetTable.insertAt es p (mh P w k, Value.ref x) = es1 at ent1 ⊢
  have sz1 : es1.size = L.length + 1 := by rw [← Array.length_toList, ent1, List.length_map, len1]
  have nd1 : (L1.map Prod.snd).Nodup := (pm.map Prod.snd).nodup_iff.mpr (by rw [List.map_cons]; exact List.nodup_cons.mpr ⟨m, r.nd⟩)
  -- what is left, whether the table stays plain or not
  have last : ∀ y : Bool, wpAny (model P w) A (do
      storeSet a es1 { t1 with plain := y }
      if !false && ({ t1 with plain := y } : SetTable).tooFull then setRelay a (SetTable.grown (es.size + 1))
      return true) Q E s := fun y => by
    have T := tab_plain g3 y
    generalize ht2 : ({ t1 with plain := y } : SetTable) = t2 at T ⊢
    have m2 : t2.mask = t.mask := by rw [← ht2]; exact g4
    have l2 : t2.led = t.led := by rw [← ht2]; exact g5
    have f2 : t2.fill = L.length + 1 := by rw [← ht2]; exact g9
    have led2 : w.params.followText "set-order" = true ∨ t2.led = true := by rw [l2]; exact r.led
    refine wpAny_bind (wpAny_storeSet_of ho hd ?_ (by rw [sz1, sizeLine_eq]; omega))
    have sb : Heap.SameBut a s.heap (s.heap.update a (Obj.putSet es1 t2)) := Heap.SameBut.update ..
    have ho1 := store_at (es'
            := es1) (t' := t2) ho hd
    generalize s.heap.update a (Obj.putSet es1 t2) = h1 at sb ho1 ⊢
    have mem1 : ∀ p ∈ L1, MT P w h1 p.2 p.1 := fun p hp => by
      rcases List.mem_cons.mp
              (pm.mem_iff.mp hp) with e | z
      · rw [e]; exact mt_same hx ho hd sb
      · exact mt_same (r.mem p z) ho hd sb
    by_cases full : t2.tooFull = true
    · have big : t2.mask * 3 ≤ (L.length + 1) * 5 := by
        have z := full
        unfold SetTable.tooFull at z
        rw [decide_eq_true_eq, f2] at z
        exact z
      have two : (t.mask = 7 ∧ L.length = 4) ∨ (t.mask = 31 ∧ L.length = 18) := by
        rw [m2] at big
        rcases r.tab.mok with z | z | z
        · exact .inl ⟨z, by omega⟩
        · exact .inr ⟨z, by omega⟩
        · omega
      have go : ∀ M, SetTable.sizeAbove (SetTable.grown (L.length + 1)) - 1 = M → MaskOk M →
              SetTable.sizeAbove (SetTable.grown (L.length + 1)) ≤ 128 → (L.length + 1) * 5 < M * 3 →
          wpAny (model P w) A (setRelay a (SetTable.grown (L.length + 1))) (fun _ u => wpAny (model P w) A (pure true) Q E u) E { s with heap := h1 } := fun M z1 z2 z3 z4 => by
        refine sr_relay (s := { s with heap := h1 }) (L := L1) ho1 ⟨hex.1, hex.2.1, hex.2.2⟩ rfl ent1 (by rw [T.sz, hsM_len]) T.dm (by rw [len1, m2]; rcases two with ⟨e, e2⟩ | ⟨e, e2⟩ <;> omega) nd1 mem1 led2 z1 z2 z3 (by rw [len1]; exact z4) ?_
        exact fun h2 L2 es2 ep2 t3 sb2 r2 pm2 => wpAny_pure (q true h2 L2 es2 ep2 t3 (sb.trans sb2) r2 (fun z => absurd z m) fun _ => pm2.trans pm)
      rw [sz]
      first
        | (refine wpAny_bind ?_; refine wp_if_pos (by simp [full]) ?_)
        | (refine wp_if_pos (by simp [full]) ?_; refine wpAny_bind ?_)
      rcases two with ⟨_, e2⟩ | ⟨_, e2⟩
      · exact go 31 (by rw [e2, size_20]) (.inr (.inl rfl)) (by rw [e2, size_20]; decide) (by omega)
      · exact go 127 (by rw [e2, size_76]) (.inr (.inr rfl)) (by rw [e2, size_76]; decide) (by omega)
    · have little : (L.length + 1) * 5 < t2.mask * 3 := by
        have z := full
        unfold SetTable.tooFull at z
        rw [decide_eq_true_eq, f2] at z
        omega
      first
        | refine wp_if_neg (by simp [full]) ?_
        | (refine wpAny_bind ?_; refine wp_if_neg (by simp [full]) ?_; refine wpAny_pure ?_)
      exact wpAny_pure (q true h1 L1 es1 (ep + 1) t2 sb ⟨⟨_, ho1, ⟨hex.1, hex.2.1, hex.2.2⟩, rfl⟩, ent1, T, nd1, mem1, led2, by rw [len1]; exact little⟩ (fun z => absurd z m) fun _ => pm)
  by_cases hpl :
          t1.plain = true
  · first
      | (refine wpAny_bind ?_; refine wp_if_pos hpl ?_; refine mt_hash hx fun y => ?_)
      | refine wp_if_pos hpl (wpAny_bind (mt_hash hx fun y => ?_))
    cases y with
    | true =>
      have := last t1.plain
      simp only [if_true]
      exact this
    | false =>
      simp only [Bool.false_eq_true,
              if_false]
      exact last false
  · first
      | (refine wpAny_bind ?_; refine wp_if_neg hpl ?_; refine wpAny_pure ?_)
      | refine wp_if_neg hpl (wpAny_bind (wpAny_pure ?_))
    simp only [if_true]
    exact last t1.plain
/-! ### all members of a list -/
structure Seen (ks : List (Addr × List Key)) (i : Nat) (L : List (Addr × List Key)) : Prop where
  sub : ∀ p ∈ L, p ∈ ks.take i
  all : ∀ p ∈ ks.take i, p.2 ∈ L.map Prod.snd
  len : L.length ≤ i
theorem snoc_take {α : Type} {l : List α} {i : Nat} {x : α} (h : l[i]? = some x) : l.take (i + 1) = l.take i ++ [x] := by rw [List.take_add_one, h]; rfl
theorem Seen.next {ks L L' : List (Addr × List Key)} {i : Nat} {x : Addr × List Key} (g : Seen ks i L) (h : ks[i]? = some x) (c1 : x.2 ∈ L.map Prod.snd → L' = L) (c2 : x.2 ∉ L.map Prod.snd → L'.Perm (x :: L)) : Seen ks (i + 1) L' := by
  have e := snoc_take h
  by_cases c : x.2 ∈ L.map Prod.snd
  · rw [c1 c]
    refine ⟨fun p m => by rw [e]; exact List.mem_append_left _ (g.sub p m), fun p m => ?_, Nat.le_succ_of_le g.len⟩
    rw [e] at m
    rcases List.mem_append.mp m with z | z
    · exact g.all p z
    · rw [List.mem_singleton] at z; rw [z]; exact c
  · have pm := c2 c
    refine ⟨fun p m => ?_, fun p m => ?_, by rw [pm.length_eq, List.length_cons]; have := g.len; omega⟩
    · rw [e]
      rcases List.mem_cons.mp (pm.mem_iff.mp m) with z | z
      · rw [z]; simp
      · exact List.mem_append_left
              _ (g.sub p z)
    · rw [(pm.map Prod.snd).mem_iff, List.map_cons]
      rw [e] at m
      rcases List.mem_append.mp m with z | z
      · exact List.mem_cons_of_mem
              _ (g.all p z)
      · rw [List.mem_singleton] at z; rw [z]; exact List.mem_cons_self
/-- as many as there are different keys -/
theorem Seen.count {ks L : List (Addr × List Key)} (g : Seen ks ks.length L) (nd : (L.map Prod.snd).Nodup) : L.length = dcount (ks.map Prod.snd) := by
  have := dcount_same (l := ks.map Prod.snd) nd fun y => ⟨fun m => ?_, fun m => ?_⟩
  · rw [List.length_map] at this
    exact this
  · obtain ⟨p, hp, e⟩ := List.mem_map.mp m
    exact List.mem_map.mpr ⟨p, List.mem_of_mem_take (g.sub p hp), e⟩
  · obtain ⟨p, hp, e⟩ := List.mem_map.mp m
    exact e ▸ g.all p (by rw [List.take_length]; exact hp)
theorem mt_keep {h h' : Heap} {k : List Key} {b : Addr} (x : MT P w h k b) (kp : ∀ c o, h.get? c = some o → h'.get? c = some o) : MT P w h' k b := by
  obtain ⟨o, its, n, ho, rest⟩ := x
  exact ⟨o, its, n, kp b o ho, rest⟩
theorem SR.moved {h h' : Heap} (r : SR P w h a L es ep t) (ka : ∀ o, h.get? a = some o → h'.get? a = some o) (km : ∀ p ∈ L, MT P w h' p.2 p.1) : SR P w h' a L es ep t := by
  obtain ⟨o, ho, rest⟩ := r.obj
  exact ⟨⟨o, ka o ho, rest⟩, r.ent, r.tab, r.nd, km, r.led, r.room⟩
abbrev led0 (w : World) : Bool := !w.params.followText "set-order"
abbrev new0 (w : World) : Obj := { cls := .type "set", dict := none, data := .set #[] 0 (.fresh 0 0 (led0 w)) }
theorem sr_new {h : Heap} (ho : h.get? a = some (new0 w)) : SR P w h a [] #[] 0 (.fresh 0 0 (led0 w)) := by
  refine ⟨⟨_, ho, ⟨rfl, rfl, rfl⟩, rfl⟩, rfl, ⟨List.Pairwise.nil, rfl, rfl, .inl rfl, fun x m => (by cases m), fun i h j e => (by cases e)⟩, List.nodup_nil, fun p m => (by cases m), ?_, ?_⟩
  · show _ ∨ led0 w = true
    unfold led0
    cases w.params.followText
            "set-order"
    · exact .inr rfl
    · exact .inl rfl
  · show 0 * 5 < 7 * 3
    decide
theorem upd_loop {I : Addr} {fp wr : List Addr} {G : Array GenState → Array GenState → Prop} {n : Nat} {Pv : Nat → Value → Prop} {St : Nat → Shared → Prop} {R : Result → Shared → Prop}
    (W : WalksS P w A.in1 I fp wr G n Pv St) (S : Addr) (out : S ∉ fp) (ks : List (Addr × List Key)) (hn : n = ks.length) (few : ks.length < 60) (val : ∀ i v, Pv i v → ∃ p, ks[i]? = some p ∧ v = .ref p.1)
    (h0 : Heap) (hk : ∀ p ∈ ks, MT P w h0 p.2 p.1) (hS : h0.get? S = none) (hwr : ∀ b ∈ wr, h0.get? b = none) (hu : A.in1.units < cLine) :
    ∀ (d i : Nat) (s : Shared), i + d = n → St i s → (∀ b o, h0.get? b = some o → s.heap.get? b = some o) → (∃ L es ep t, SR P w s.heap S L es ep t ∧ Seen ks i L) →
      (∀ u L es ep t, Moved (S :: wr) G s u → SR P w u.heap S L es ep t → Seen ks n L → (∀ b o, h0.get? b = some o → u.heap.get? b = some o) → R (.ok (.ret .none)) u) →
      codeAny (model P w) A (.builtin "set.update.loop"
              ⟨[.ref S, .ref I], []⟩) R s := by
  have nwr : S ∉ wr := fun z => out (W.sub _ z)
  have wide : ∀ b ∈ wr, b ∈ S :: wr := fun b m => List.mem_cons_of_mem _ m
  have old : ∀ {u v : Shared}, Moved wr G u v → (∀ b o, h0.get? b = some o → u.heap.get? b = some o) → ∀ b o, h0.get? b = some o → v.heap.get? b = some o := fun mv kp b o e =>
    mv.heap b o (fun z => by rw [hwr b z] at e; cases e) (kp b o e)
  have part : ∀ {i : Nat} {L : List (Addr × List Key)} {u : Shared}, Seen ks i L → (∀ b o, h0.get? b = some o → u.heap.get? b = some o) → ∀ p ∈ L, MT P w u.heap p.2 p.1 := fun g kp p m => mt_keep (hk p (List.mem_of_mem_take (g.sub p m))) kp
  intro d
  induction d with
  | zero =>
    intro i s hi st kp ⟨L, es, ep, t, r, g⟩ fin
    obtain rfl : i = n := by omega
    refine codeAny_builtin
            F.entry_set_update_loop ?_
    rw [Around.under_plainId
            F.plain_set_update_loop _]
    refine wpAny_bind (m := pyNext (.ref I)) (W.done s _ _ st fun u mv => ?_)
    have kp2 := old mv kp
    exact wpAny_pure (fin u L es ep t (mv.mono wide) (r.moved (fun o e => mv.heap S o nwr e) (part g kp2)) g kp2)
  | succ d ih =>
    intro i s hi st kp ⟨L, es, ep, t, r, g⟩ fin
    have lt : i < n := by omega
    refine codeAny_builtin
            F.entry_set_update_loop ?_
    rw [Around.under_plainId
            F.plain_set_update_loop _]
    refine wpAny_bind (m := pyNext (.ref I)) (W.item i s _ _ lt st fun v u hv st2 mv => ?_)
    obtain ⟨p, hp, rfl⟩ := val i v hv
    have kp2 := old mv kp
    have r2 := r.moved (fun o e => mv.heap S o nwr e) (part g kp2)
    have hx := mt_keep (hk p (List.mem_of_getElem? hp)) kp2
    refine wpAny_bind (m := holding [Value.ref p.1] (setAdd S (.ref p.1))) (wpAny_holding ?_)
    unfold setAdd
    refine wpAny_holding (wpAny_bind (wpAny_pyHash_tuple hu hx ?_))
    refine sr_add (s := { u with toks := u.toks + (p.2.length + 1) }) r2 hx hu (by have := g.len; omega) fun y h2 L2 es2 ep2 t2 sb r3 c1 c2 => ?_
    have kp3 : ∀ b o, h0.get? b = some o → h2.get? b = some o := fun b o e => (sb.2 b (fun z => by rw [z, hS] at e; cases e)).trans (kp2 b o e)
    refine wpAny_pure ⟨plainId_quiet F.plain_set_update_loop _, ih (i + 1) _ (by omega) (W.frame _ u _ _ st2 (Nat.le_add_right _ _) fun b hb o e => ?_) kp3 ⟨L2, es2, ep2, t2, r3, g.next hp c1 c2⟩ fun v L3 es3 ep3 t3 mv2 r4 g4 kp4 => ?_⟩
    · rw [sb.2 b (fun z : b = S => out (by rw [← z]; exact hb))]
      exact e
    · refine fin v L3 es3 ep3 t3 (Moved.trans W.gtrans ((mv.mono wide).then_heap (Nat.le_add_right _ _) fun b o hb e => ?_) mv2) r4 g4 kp4
      rw [sb.2 b (fun z : b = S => hb (by rw [z]; exact List.mem_cons_self))]
      exact e
set_option maxHeartbeats
        8000000 in
/-- set(xs) of a list of such tuples -/
theorem call_set_mt {l : Addr} {items : Array Value} (ks : List (Addr × List Key)) {Q : Value → Shared → Prop} (hh : A.handled = none) (hl : s.heap.IsList l items) (hit : items.toList = ks.map fun p => Value.ref p.1)
    (hk : ∀ p ∈ ks, MT P w s.heap p.2 p.1) (few : ks.length < 60) (hu : A.units + 3 < cLine)
    (q : ∀ (h' : Heap) (tk : Nat) L es ep t, SR P w h' s.heap.objs.size L es ep t → Seen ks ks.length L → (∀ b o, s.heap.get? b = some o → h'.get? b = some o) → Q (.ref s.heap.objs.size) { s with heap := h', toks := tk }) :
    wpAny (model P w) A (call (.type
            "set") [.ref l]) Q E s := by
  have isz : items.size = ks.length := by rw [← Array.length_toList, hit, List.length_map]
  obtain ⟨c, tl, hmro⟩
          := F.called_set.mro
  have hmade :=
          F.called_set.made
  have hsub := F.called_set.sub
  refine wpAny_call
          (codeAny_of_tree ?_)
  change wpAny _ _ (callAny (.type "set") _) _ _ _
  refine wpAny_pure ⟨Code.quiet_builtin _ (by
          decide +kernel), codeAny_builtin F.entry_type_call ?_⟩
  rw [Around.under_plain (weight_type_call_type
          "set" [.ref l] []) rfl]
  have k1 := F.called_set.notType
  have k2 := F.called_set.canCreate
  have k3 := F.typeCall_set_1 (.ref l)
  repeat (any_goals first | assumption | wp_step)
  refine codeAny_mono (code_set_led1 (.ref l) (E := E) (Q₁ := fun v u => v = .ref s.heap.objs.size ∧ u = { s with heap := s.heap.push (new0 w) }) ⟨rfl, rfl⟩) fun res u hres => ?_
  cases res with
  | error e => exact hres
  | ok fl =>
    cases fl with
    | ret v =>
      obtain ⟨rfl, rfl⟩ := hres
      have hS : (s.heap.push (new0 w)).get? s.heap.objs.size = some (new0 w) := Heap.get?_push_size _ rfl
      have hT : Shared.TypeIs { s with heap := s.heap.push (new0 w) } (.ref s.heap.objs.size) "set" := ⟨_, hS, rfl⟩
      have k4 := F.called_set.init.lookup
      have k5 := F.called_set.init.bind (.ref s.heap.objs.size)
      repeat (any_goals first | assumption | wp_step)
      refine codeAny_mono (codeAny_call_builtin (R := wants (fun v u => v = .none ∧ ∃ h' tk L es ep t, u = { s with heap := h', toks := tk } ∧ SR P w h' s.heap.objs.size L es ep t ∧ Seen ks ks.length L ∧ (∀ b o, s.heap.get? b = some o → h'.get? b = some o)) E)
        F.called_set.init.plain F.entry_set_init (check_set_init_1 hT ?_)) fun res2 u2 hres2 => ?_
      · obtain ⟨ol, hol,
              hcl, nl, hdl⟩ := hl
        obtain ⟨ocls, odict,
                odata, oslots⟩ := ol
        simp only at hcl hdl
        subst hcl
        subst hdl
        have hol2 : (s.heap.push (new0 w)).get? l = some { cls := .type "list", dict := odict, data := .seq items nl, slots := oslots } := Heap.get?_push_of_some _ hol
        have k6 := F.sub_list_set
        have k7 := F.sub_list_frozenset
        have k8 : (Value.type "list" == Value.type "dict") = false := by decide
        have hl2 : (s.heap.push (new0 w)).IsList l items := ⟨_, hol2, rfl, nl, rfl⟩
        unfold Builtin.«set.__init__»
                noKeywords Builtin.Frozenset.updateFrom
        generalize hit2 : pyIter = it
        wp_walk
        subst hit2
        refine wpAny_pyIter_list hl2 (wpAny_bind (wpAny_runValue ?_))
        have lS : l < s.heap.objs.size := Heap.lt_size hol
        have sz1 : (s.heap.push (new0 w)).objs.size = s.heap.objs.size + 1 := Heap.size_push ..
        have neI : l ≠ (s.heap.push (new0 w)).objs.size := by rw [sz1]; exact Nat.ne_of_lt (Nat.lt_succ_of_lt lS)
        have out : s.heap.objs.size ∉ [(s.heap.push (new0 w)).objs.size, l] := by
          rw [sz1]
          intro z
          rcases List.mem_cons.mp
                  z with z | z
          · exact Nat.ne_of_lt (Nat.lt_succ_self _) z
          · rw [List.mem_singleton] at z; exact Nat.ne_of_lt lS z.symm
        have val : ∀ (i : Nat) (v : Value), items[i]? = some v → ∃ p, ks[i]? = some p ∧ v = .ref p.1 := fun i v hv => by
          rw [← Array.getElem?_toList, hit, List.getElem?_map] at hv
          cases e : ks[i]? with
          | none => rw [e] at hv; cases hv
          | some p => rw [e] at hv; cases hv; exact ⟨p, rfl, rfl⟩
        have fresh : ∀ b, s.heap.objs.size ≤ b → s.heap.get? b = none := fun b hb => by
          cases e : s.heap.get? b with
          | none => rfl
          | some o => exact absurd (Nat.lt_of_lt_of_le (Heap.lt_size e) hb) (Nat.lt_irrefl _)
        refine upd_loop ((Walks.list (by simp [hh]) _ l neI items).toS) s.heap.objs.size out ks isz few val s.heap hk (fresh _ (Nat.le_refl _)) (fun b hb => fresh b (by rw [List.mem_singleton.mp hb, sz1]; exact Nat.le_succ _)) hu items.size 0 _ (by omega)
          ⟨⟨_, Heap.get?_push_size _ rfl, rfl, rfl⟩, (hl2.push _)⟩ (fun b o e => Heap.get?_push_of_some _ (Heap.get?_push_of_some _ e)) ?start ?fin
        case start => exact ⟨[], #[], 0, _, sr_new (Heap.get?_push_of_some _ hS), ⟨fun p m => (by cases m), fun p m => (by rw [List.take_zero] at m; cases m), Nat.le_refl _⟩⟩
        case fin =>
          intro u L es ep t mv r g kp
          obtain ⟨h', g2, d2, tk, os2⟩ := u
          obtain rfl : g2 = s.gens := mv.gens
          obtain rfl : d2 = s.drawn := mv.drawn
          obtain rfl : os2 = s.os := mv.os
          rw [isz] at g
          exact wpAny_pure (wpAny_pure ⟨rfl, h', tk, L, es, ep, t, rfl, r, g, kp⟩)
      · cases res2 with
        | error e => exact hres2
        | ok fl2 =>
          cases fl2 with
          | ret v =>
            obtain ⟨rfl, h', tk, L, es, ep, t, rfl, r, g, kp⟩ := hres2
            repeat (any_goals first | assumption | wp_step)
            exact q _ _ _ _ _ _ r g kp
          | _ => exact hres2.elim
    | _ => exact hres.elim
end
/-! ### len(set(xs)) -/
section
variable {X : Cx} {W' : WX} {a : Expr} {ma : EM} {p p2 q pos : Pos}
def tLenSetM (K : PySem.W.Frag) (ta : TE) : TE := fun σ H Q => ta σ H fun x H1 => ∃ (l : Addr) (ks : List (Addr × List Key)), x = V.ref l ∧ SqL K H1 l (ks.map fun p => V.ref p.1) ∧ (∀ p ∈ ks, SqT K H1 p.1 (p.2.map kV)) ∧ ks.length < 60 ∧ Q (.int (dcount (ks.map Prod.snd) : Nat)) H1
end
end Sh
set_option linter.all false
set_option maxRecDepth 100000
set_option
        maxHeartbeats 4000000
/-! Sh13: len(set(xs)). -/
namespace Sh
open PySem PySem.Spec
        PyProof.Rows L2
/-! ### what the list holds -/
theorem ints_rv {K : PySem.W.Frag} {loc : Locs} {H : Hp} : ∀ {xs : List W} {vs : List V} {is : List Int}, Rvs K loc H xs vs → xs.mapM intW = some is → vs = is.map V.int
  | _, _, is, .nil, e => by cases e; rfl
  | _, _, is, .cons (w := w) r t, e => by
    obtain ⟨i, is2, e1, e2, rfl⟩ := mapM_cons_some e
    rw [ints_rv t e2]
    cases w with
    | int j => cases e1; cases r; rfl
    | _ => cases e1
theorem keys_rv {K : PySem.W.Frag} {loc : Locs} {H : Hp} : ∀ {xs : List W} {vs : List V} {k : List Key}, Rvs K loc H xs vs → xs.mapM keyS = some k → vs = k.map kV
  | _, _, k, .nil, e => by cases e; rfl
  | _, _, k, .cons (w := w) r t, e => by
    obtain ⟨i, k2, e1, e2, rfl⟩ := mapM_cons_some e
    rw [keys_rv t e2]
    cases w with
    | int j => cases e1; cases r; rfl
    | str z => cases e1; cases r; rfl
    | _ => cases e1
theorem tups_rv {K : PySem.W.Frag} {loc : Locs} {H : Hp} : ∀ {xs : List W} {vs : List V} {ts : List (List Key)}, Rvs K loc H xs vs → xs.mapM tupW = some ts → ∃ ks : List (Addr × List Key), vs = ks.map (fun p => V.ref p.1) ∧ (∀ p ∈ ks, SqT K H p.1 (p.2.map kV)) ∧ ks.map Prod.snd = ts
  | _, _, ts, .nil, e => by cases e; exact ⟨[], rfl, fun p m => (by cases m), rfl⟩
  | _, _, ts, .cons (w := w) r t, e => by
    obtain ⟨k, ts2, e1, e2, rfl⟩ := mapM_cons_some e
    obtain ⟨ks, rfl, h2, rfl⟩ := tups_rv t e2
    cases w with
    | tup ys =>
      cases r with
      | @tup _ a us h1 h3 =>
        have e3 : (if ys.length < 20 then ys.mapM keyS else none) = some k := e1
        by_cases c : ys.length < 20
        · rw [if_pos c] at e3
          have := keys_rv h3 e3
          subst this
          exact ⟨(a, k) :: ks, rfl, fun p m => (List.mem_cons.mp m).elim (fun z => z ▸ h1) (h2 p), rfl⟩
        · rw [if_neg c] at e3
          cases e3
    | _ => cases e1
theorem its_refs : ∀ {ks : List (Addr × List Key)} {us : List Value}, Vals (ks.map fun p => V.ref p.1) us → us = ks.map fun p => Value.ref p.1
  | [], _, .nil => rfl
  | p :: ks, _, .cons r t => by
    cases r
    rw [List.map_cons, its_refs t]
/-! ### as many as there are different ints -/
theorem met_facts (val : Nat → Int) : ∀ n, (firstMet val n).Nodup ∧ ∀ x, x ∈ firstMet val n ↔ ∃ i, i < n ∧ val i = x
  | 0 => ⟨List.nodup_nil, fun x => ⟨fun m => (by cases m), fun ⟨i, h, _⟩ => absurd h (Nat.not_lt_zero _)⟩⟩
  | n + 1 => by
    obtain ⟨h1, h2⟩ := met_facts val n
    have split : ∀ x, (∃ i, i < n + 1 ∧ val i = x) ↔ (x ∈ firstMet val n ∨ x = val n) := fun x => by
      rw [h2]
      refine ⟨fun ⟨i, a, b⟩ => ?_, fun z => ?_⟩
      · by_cases c : i = n
        · exact .inr (by rw [← b, c])
        · exact .inl ⟨i, by omega, b⟩
      · rcases z with ⟨i, a, b⟩ | z
        · exact ⟨i, by omega, b⟩
        · exact ⟨n, by omega, z.symm⟩
    rw [firstMet_succ]
    unfold step_dedup
    by_cases c : (firstMet val n).any (· == val n) = true
    · rw [if_pos c]
      obtain ⟨y, hy, e⟩ := List.any_eq_true.mp c
      have e' : y = val n := beq_iff_eq.mp e
      subst e'
      exact ⟨h1, fun x => by rw [split x]; exact ⟨.inl, fun z => z.elim id fun z => z ▸ hy⟩⟩
    · rw [if_neg c]
      have no : val n ∉ firstMet val n := fun z => c (List.any_eq_true.mpr ⟨_, z, beq_self_eq_true _⟩)
      refine ⟨?_, fun x => ?_⟩
      · rw [List.nodup_append]
        refine ⟨h1, by simp, fun a ha b hb e => ?_⟩
        rw [List.mem_singleton] at hb
        rw [e, hb] at ha
        exact no ha
      · rw [split x, List.mem_append, List.mem_singleton]
theorem met_count (is : List Int) : (firstMet (fun i => is.getD i 0) is.length).length = dcount is := by
  obtain ⟨h1, h2⟩ := met_facts (fun i => is.getD i 0) is.length
  refine dcount_same h1 fun x => ?_
  rw [h2]
  refine ⟨fun ⟨i, a, b⟩ => ?_, fun m => ?_⟩
  · have b' : is.getD i 0 = x := b
    rw [List.getD_eq_getElem?_getD, List.getElem?_eq_getElem a] at b'
    exact b' ▸ List.getElem_mem a
  · obtain ⟨i, a, b⟩ := List.getElem_of_mem m
    exact ⟨i, a, by show is.getD i 0 = x; rw [List.getD_eq_getElem?_getD, List.getElem?_eq_getElem a]; exact b⟩
section
variable {X : Cx} {W' : WX} {a : Expr} {ma : EM} {p p2 q pos : Pos}
theorem Inv.mt {pins : List (Addr × Obj)} {σ : L2.St} {H : Hp} {s : Shared} {b : Addr} {k : List Key} (I : Inv X pins σ H s) (h : SqT X.K H b (k.map kV)) : MT X.prog X.w s.heap k b := by
  obtain ⟨its, r, ⟨o, h1, h2, n, h3⟩, _⟩ := I.tuple h
  exact ⟨o, its.toArray, n, h1, h2,
          h3, by simpa using items_are r⟩
def tLS (K : PySem.W.Frag) (ta : TE) : TE := fun σ H Q => ta σ H fun x H1 => caP K lenSetV [x] H1 Q
theorem pe_lenset {ta : TE} (hc : X.calm = true) (hu : X.A.units + 64 < cLine) (hg : Gl X "len") (hm : X.mg "len" = none) (hg2 : Gl X "set") (hm2 : X.mg "set" = none) (ha : PE X a ta)
    (na : starEach [a] X.env = (false, eval a X.env) :: starEach [] X.env := by rfl) : PE X (.Call (.Name "len" p) [.Call (.Name "set" p2) [a] [] q] [] pos) (tLS X.K ta) := by
  constructor
  intro pins s σ H Q I h
  refine Call_ (ld_blt I
          hg hm PySem.boot_len ?_)
  refine PyProof.Rows.callWith_builtin1
          (PyProof.Rows.args_cons ?_ rfl) rfl rfl
  refine Call_ (ld_blt I hg2
          hm2 PyProof.Rows.boot_set ?_)
  refine PyProof.Rows.callWith_type1 (PyProof.Rows.args_cons (thn (ha.run pins s
          σ H _ I h) fun v s1 ⟨x, H1, I1, r1, q1⟩ => PyProof.Rows.args_nil ?_) na) na rfl
  obtain ⟨ws, mem, loc, rs, rv, w, mem', e, q1⟩ := q1
  cases rv with
  | @cons wx _ ws' _ rx rt =>
    cases rt
    unfold lenSetV at e
    cases rx with
    | @loc n l hloc =>
      dsimp only at e
      cases hl : listAt mem n with
      | none => rw [hl] at e; cases e
      | some xs =>
        rw [hl] at e
        dsimp only [Option.bind] at e
        obtain ⟨vs, hv, rvs⟩ := rs_list rs hl hloc
        cases r1
        by_cases few : xs.length < 60
        · rw [if_pos few] at e
          obtain ⟨its, rits, pl, hz⟩ := I1.list (SqL.of hv)
          have lv : its.length = xs.length := by rw [← rits.length, ← rvs.length]
          cases hi : xs.mapM intW with
          | some is =>
            rw [hi] at e
            dsimp only at e
            cases e
            have ev := ints_rv rvs hi
            subst ev
            have li : its.toArray.size = is.length := by rw [List.size_toArray, ← rits.length, List.length_map]
            refine call_set_list (I1.ok.hd hc) pl.isList (ns := is) (by simpa using rits.ints) (by unfold scanBound; rw [List.size_toArray]; omega) fun h' tk hS kp => ?_
            rw [li] at hS
            obtain ⟨o, es, ep, t, ho, hex,
                    hd, _, _, _, hf, hn⟩ := hS
            rw [met_count] at hn
            have small := dcount_le is
            have I2 : Inv X pins σ H1 { s1 with heap := h', toks := tk } := I1.kept fun b o e => kp b o (Heap.lt_size e) e
            refine
                    PyProof.Rows.args_nil ?_
            have lz : is.length < 60 := by rw [← li, List.size_toArray, lv]; exact few
            exact call_len_set ho hex hd hf (by rw [hn]; omega) ⟨.int (dcount is : Nat), H1, I2.tok _, ⟨_, by rw [hn]⟩, q1 _ H1 loc Ext.refl rs (.int _)⟩
          | none =>
            rw [hi] at e
            dsimp only at e
            cases ht : xs.mapM tupW with
            | none => rw [ht] at e; cases e
            | some ts =>
              rw [ht] at e
              dsimp only at e
              cases e
              obtain ⟨ks, rfl, hk, rfl⟩ := tups_rv rvs ht
              have eits := its_refs rits
              have lk : ks.length < 60 := by
                have := congrArg List.length eits
                rw [List.length_map] at this
                omega
              refine call_set_mt (P := X.prog) (w := X.w) ks (I1.ok.hd hc) pl.isList (by simpa using eits) (fun p m => Inv.mt I1 (hk p m)) lk (by omega) fun h' tk L es ep t r g kp => ?_
              have hn : es.size = dcount (ks.map Prod.snd) := by rw [SR.size (s := { s1 with heap := h', toks := tk }) r]; exact g.count r.nd
              have small := dcount_le (ks.map Prod.snd)
              rw [List.length_map] at small
              have I2 : Inv X pins σ H1 { s1 with heap := h', toks := tk } := I1.kept fun b o e => kp b o e
              refine
                      PyProof.Rows.args_nil ?_
              obtain ⟨o, ho, hex, hd⟩ := r.obj
              exact call_len_set ho hex hd (SR.fits (s := { s1 with heap := h', toks := tk }) r) (by rw [hn]; omega) ⟨.int (dcount (ks.map Prod.snd) : Nat), H1, I2.tok _, ⟨_, by rw [hn]⟩, q1 _ H1 loc Ext.refl rs (.int _)⟩
        · rw [if_neg few] at e
          cases e
    | _ => cases e
theorem se_lenset (hc : X.calm = true) (hu : X.A.units + 64 < cLine) (hg : Gl X "len") (hm : X.mg "len" = none) (hg2 : Gl X "set") (hm2 : X.mg "set" = none) (ha : SE X W' a ma)
    (na : starEach [a] X.env = (false, eval a X.env) :: starEach [] X.env := by rfl) : SE X W' (.Call (.Name "len" p) [.Call (.Name "set" p2) [a] [] q] [] pos) (callN lenSetV (consA ma nilA)) :=
  pe_imp (pe_lenset hc hu hg hm hg2 hm2 ha na) fun σ H Q ⟨env, mem, loc, re, rs, h⟩ => by
    refine denE_then (ok := okQ X.K loc H Q) (k := fun _ w => fun m => lift (lenSetV [w] m)) re rs ?_ fun w mem1 v H1 loc1 e1 rs1 rv1 re1 h1 => ?_
    · have eq : callN lenSetV (consA ma nilA) env mem = SM.bind (ma env) (fun w m => lift (lenSetV [w] m)) mem := by
        unfold callN consA SM.bind
        cases ma env mem <;> rfl
      rw [← eq]
      exact h
    · obtain ⟨w2, mem2, e, q⟩ := post_lift h1
      exact ⟨[w], mem1, loc1, rs1, .cons rv1 .nil, w2, mem2, e, q.mono e1⟩
end
end Sh
set_option linter.all false
set_option maxRecDepth 100000
set_option
        maxHeartbeats 4000000
/-! the computations of the text -/
namespace Sh
open PySem PySem.Spec
        PyProof.Rows L2
def v_WHENS : W := (.tup [(.str "tick"), (.str "pull"), (.str "got 0"), (.str "got 1"), (.str "got 2"), (.str "got 3")])
def v_ACTS : W := (.tup [(.str "none"), (.str "send 0"), (.str "send 1"), (.str "send 2"), (.str "send 3"), (.str "take"), (.str "tell")])
def v_MOST_STATES : W := (.int 5)
def v_MOST_RULES : W := (.int 12)
def b__law_numbers : SS :=
  (seqS (setS 1 (lstE nilA))
    (seqS (forS (seqI (sliceE (varE 0) none (some (cE (.int 63))))) (nameG 2) (ifS (tB (bin geV (varE 2) (bin powV (cE (.int 10)) (cE (.int 18))))) (seqS (setS 3 (varE 2))
    (forS (rng1I (consA (cE (.int 60)) nilA)) (nameG 4) (seqS (ifS (tB (bin eqV (varE 3) (cE (.int 0)))) brkS nextS)
    (seqS (dropS (methE chkL appendV (varE 1) (consA (bin modV (callN intV (consA (varE 3) nilA)) (cE (.int 997))) nilA)))
    (setS 3 (bin fdivV (varE 3) (cE (.int 997)))))))) (forS (rng1I (consA (cE (.int 4)) nilA)) (nameG 4) (seqS (setS 5 (bin modV (callN intV (consA (bin addV (bin addV (bin mulV (varE 2) (cE (.int 48271))) (bin mulV (varE 4) (cE (.int 69621)))) (cE (.int 11))) nilA)) (cE (.int 2147483647))))
    (dropS (methE chkL appendV (varE 1) (consA (bin modV (callN intV (consA (bin addV (bin mulV (varE 5) (cE (.int 16807))) (varE 4)) nilA)) (cE (.int 2147483629))) nilA)))))))
    (seqS (ifS (tB (bin eqV (callN lenV (consA (varE 1) nilA)) (cE (.int 0)))) (dropS (methE chkL appendV (varE 1) (consA (cE (.int 0)) nilA))) nextS)
    (retS (varE 1)))))

def b__law_draw : SS :=
  (seqS (ifS (tB (bin ltV (varE 1) (callN lenV (consA (varE 0) nilA)))) (retS (bin modV (callN intV (consA (bin ixV (varE 0) (varE 1)) nilA)) (varE 2))) nextS)
    (seqS (setS 3 (bin modV (callN intV (consA (bin addV (bin addV (bin mulV (bin ixV (varE 0) (bin modV (callN intV (consA (varE 1) nilA)) (callN lenV (consA (varE 0) nilA)))) (cE (.int 40692))) (bin mulV (varE 1) (cE (.int 7919)))) (cE (.int 3))) nilA)) (cE (.int 2147483399))))
    (retS (bin modV (callN intV (consA (bin modV (callN intV (consA (bin addV (bin mulV (varE 3) (cE (.int 48271))) (varE 1)) nilA)) (cE (.int 2147483647))) nilA)) (varE 2)))))

def b__law_take (f__law_draw : Fn) : SS :=
  (seqS (asgS (bin addV (bin ixV (varE 1) (cE (.int 0))) (cE (.int 1))) (subG setV (varE 1) (cE (.int 0))))
    (retS (callF f__law_draw (consA (varE 0) (consA (bin subV (bin ixV (varE 1) (cE (.int 0))) (cE (.int 1))) (consA (varE 2) nilA))))))

def b__law_pick (f__law_take : Fn) : SS :=
  (retS (bin ixV (varE 2) (callF f__law_take (consA (varE 0) (consA (varE 1) (consA (callN lenV (consA (varE 2) nilA)) nilA))))))

def b__law_shuffled (f__law_take : Fn) : SS :=
  (seqS (setS 3 (lrE (varE 2)))
    (seqS (setS 4 (lstE nilA))
    (seqS (forS (rng1I (consA (varE 2) nilA)) (nameG 5) (dropS (methE chkL appendV (varE 4) (consA (methE chkL popV (varE 3) (consA (callF f__law_take (consA (varE 0) (consA (varE 1) (consA (callN lenV (consA (varE 3) nilA)) nilA)))) nilA)) nilA))))
    (retS (varE 4)))))

def b__law_bases : SS :=
  (seqS (setS 0 (tupE (consA (tupE (consA (cE (.int 0)) (consA (cE (.str "tick")) (consA (cE (.int 1)) (consA (cE (.str "take")) nilA))))) (consA (tupE (consA (cE (.int 1)) (consA (cE (.str "tick")) (consA (cE (.int 1)) (consA (cE (.str "send 0")) nilA))))) (consA (tupE (consA (cE (.int 1)) (consA (cE (.str "got 0")) (consA (cE (.int 2)) (consA (cE (.str "none")) nilA))))) nilA)))))
    (seqS (setS 1 (tupE (consA (cE (.int 4)) (consA (cE (.int 0)) (consA (bin addV (varE 0) (tupE (consA (tupE (consA (cE (.int 2)) (consA (cE (.str "tick")) (consA (cE (.int 3)) (consA (cE (.str "take")) nilA))))) (consA (tupE (consA (cE (.int 3)) (consA (cE (.str "tick")) (consA (cE (.int 3)) (consA (cE (.str "send 1")) nilA))))) (consA (tupE (consA (cE (.int 3)) (consA (cE (.str "got 1")) (consA (cE (.int 0)) (consA (cE (.str "none")) nilA))))) nilA))))) nilA)))))
    (seqS (setS 0 (tupE (consA (tupE (consA (cE (.int 0)) (consA (cE (.str "got 0")) (consA (cE (.int 1)) (consA (cE (.str "tell")) nilA))))) (consA (tupE (consA (cE (.int 0)) (consA (cE (.str "got 1")) (consA (cE (.int 3)) (consA (cE (.str "none")) nilA))))) (consA (tupE (consA (cE (.int 1)) (consA (cE (.str "tick")) (consA (cE (.int 2)) (consA (cE (.str "send 0")) nilA))))) nilA)))))
    (seqS (setS 2 (tupE (consA (cE (.int 4)) (consA (cE (.int 0)) (consA (bin addV (varE 0) (tupE (consA (tupE (consA (cE (.int 2)) (consA (cE (.str "got 1")) (consA (cE (.int 3)) (consA (cE (.str "tell")) nilA))))) (consA (tupE (consA (cE (.int 2)) (consA (cE (.str "got 0")) (consA (cE (.int 1)) (consA (cE (.str "none")) nilA))))) (consA (tupE (consA (cE (.int 3)) (consA (cE (.str "tick")) (consA (cE (.int 0)) (consA (cE (.str "send 1")) nilA))))) nilA))))) nilA)))))
    (seqS (setS 3 (tupE (consA (tupE (consA (cE (.int 1)) (consA (cE (.str "got 1")) (consA (cE (.int 1)) (consA (cE (.str "none")) nilA))))) (consA (tupE (consA (cE (.int 3)) (consA (cE (.str "got 0")) (consA (cE (.int 3)) (consA (cE (.str "none")) nilA))))) (consA (tupE (consA (cE (.int 2)) (consA (cE (.str "got 0")) (consA (cE (.int 2)) (consA (cE (.str "none")) nilA))))) (consA (tupE (consA (cE (.int 0)) (consA (cE (.str "got 1")) (consA (cE (.int 0)) (consA (cE (.str "none")) nilA))))) nilA))))))
    (seqS (setS 4 (tupE (consA (cE (.int 2)) (consA (cE (.int 0)) (consA (tupE (consA (tupE (consA (cE (.int 0)) (consA (cE (.str "tick")) (consA (cE (.int 1)) (consA (cE (.str "take")) nilA))))) (consA (tupE (consA (cE (.int 1)) (consA (cE (.str "got 0")) (consA (cE (.int 0)) (consA (cE (.str "none")) nilA))))) (consA (tupE (consA (cE (.int 1)) (consA (cE (.str "tick")) (consA (cE (.int 1)) (consA (cE (.str "send 0")) nilA))))) nilA)))) nilA)))))
    (seqS (setS 5 (tupE (consA (cE (.int 2)) (consA (cE (.int 0)) (consA (tupE (consA (tupE (consA (cE (.int 0)) (consA (cE (.str "got 0")) (consA (cE (.int 1)) (consA (cE (.str "tell")) nilA))))) (consA (tupE (consA (cE (.int 1)) (consA (cE (.str "tick")) (consA (cE (.int 0)) (consA (cE (.str "send 0")) nilA))))) nilA))) nilA)))))
    (seqS (setS 0 (tupE (consA (tupE (consA (cE (.int 0)) (consA (cE (.str "tick")) (consA (cE (.int 0)) (consA (cE (.str "send 0")) nilA))))) (consA (tupE (consA (cE (.int 4)) (consA (cE (.str "tick")) (consA (cE (.int 4)) (consA (cE (.str "take")) nilA))))) nilA))))
    (seqS (forS (rng1I (consA (cE (.int 4)) nilA)) (nameG 6) (setS 0 (bin addV (varE 0) (tupE (consA (tupE (consA (varE 6) (consA (cE (.str "got 0")) (consA (varE 6) (consA (cE (.str "send 0")) nilA))))) (consA (tupE (consA (varE 6) (consA (cE (.str "got 1")) (consA (bin addV (varE 6) (cE (.int 1))) (consA (cE (.str "send 0")) nilA))))) nilA))))))
    (seqS (setS 7 (tupE (consA (cE (.int 5)) (consA (cE (.int 0)) (consA (varE 0) nilA)))))
    (seqS (setS 0 (tupE (consA (tupE (consA (cE (.int 4)) (consA (cE (.str "got 0")) (consA (cE (.int 0)) (consA (cE (.str "send 1")) nilA))))) nilA)))
    (seqS (forS (rng1I (consA (cE (.int 4)) nilA)) (nameG 6) (setS 0 (bin addV (varE 0) (tupE (consA (tupE (consA (varE 6) (consA (cE (.str "got 0")) (consA (bin addV (varE 6) (cE (.int 1))) (consA (cE (.str "send 0")) nilA))))) nilA)))))
    (seqS (setS 8 (tupE (consA (cE (.int 5)) (consA (cE (.int 0)) (consA (varE 0) nilA)))))
    (seqS (setS 9 (tupE (consA (cE (.int 5)) (consA (cE (.int 4)) (consA (bin addV (callN tupleV (consA (lcE (seqI (bin ixV (varE 1) (cE (.int 2)))) (nameG 10) yesB (varE 10) [10]) nilA)) (tupE (consA (tupE (consA (cE (.int 4)) (consA (cE (.str "tick")) (consA (cE (.int 0)) (consA (cE (.str "none")) nilA))))) (consA (tupE (consA (cE (.int 4)) (consA (cE (.str "pull")) (consA (cE (.int 0)) (consA (cE (.str "none")) nilA))))) nilA)))) nilA)))))
    (seqS (setS 11 (tupE (consA (cE (.int 5)) (consA (cE (.int 4)) (consA (bin addV (bin ixV (varE 1) (cE (.int 2))) (tupE (consA (tupE (consA (cE (.int 4)) (consA (cE (.str "got 1")) (consA (cE (.int 0)) (consA (cE (.str "none")) nilA))))) (consA (tupE (consA (cE (.int 4)) (consA (cE (.str "pull")) (consA (cE (.int 0)) (consA (cE (.str "none")) nilA))))) nilA)))) nilA)))))
    (seqS (setS 12 (tupE (consA (cE (.int 2)) (consA (cE (.int 0)) (consA (tupE (consA (tupE (consA (cE (.int 0)) (consA (cE (.str "got 0")) (consA (cE (.int 1)) (consA (cE (.str "tell")) nilA))))) (consA (tupE (consA (cE (.int 0)) (consA (cE (.str "tick")) (consA (cE (.int 0)) (consA (cE (.str "send 1")) nilA))))) (consA (tupE (consA (cE (.int 1)) (consA (cE (.str "got 1")) (consA (cE (.int 0)) (consA (cE (.str "tell")) nilA))))) (consA (tupE (consA (cE (.int 1)) (consA (cE (.str "tick")) (consA (cE (.int 1)) (consA (cE (.str "send 0")) nilA))))) nilA))))) nilA)))))
    (seqS (setS 13 (tupE (consA (tupE (consA (cE (.int 1)) (consA (cE (.int 0)) (consA (tupE (consA (tupE (consA (cE (.int 0)) (consA (cE (.str "tick")) (consA (cE (.int 0)) (consA (cE (.str "take")) nilA))))) nilA)) nilA)))) (consA (tupE (consA (cE (.int 1)) (consA (cE (.int 0)) (consA (tupE (consA (tupE (consA (cE (.int 0)) (consA (cE (.str "tick")) (consA (cE (.int 0)) (consA (cE (.str "tell")) nilA))))) nilA)) nilA)))) nilA))))
    (seqS (setS 14 (lstE (consA (tupE (consA (varE 1) (consA (varE 2) nilA))) (consA (tupE (consA (bin addV (sliceE (varE 1) none (some (cE (.int 2)))) (tupE (consA (bin addV (bin ixV (varE 1) (cE (.int 2))) (varE 3)) nilA))) (consA (varE 2) nilA))) (consA (tupE (consA (varE 4) (consA (varE 5) nilA))) (consA (tupE (consA (varE 7) (consA (varE 8) nilA))) nilA))))))
    (retS (bin addV (varE 14) (lstE (consA (tupE (consA (varE 9) (consA (varE 2) nilA))) (consA (tupE (consA (varE 11) (consA (varE 12) nilA))) (consA (varE 13) nilA))))))))))))))))))))))))

def b__law_renamed (f__law_shuffled : Fn) : SS :=
  (seqS (setS 4 (callF f__law_shuffled (consA (varE 0) (consA (varE 1) (consA (bin ixV (varE 2) (cE (.int 0))) nilA)))))
    (seqS (setS 5 (lstE nilA))
    (seqS (forS (seqI (bin ixV (varE 2) (cE (.int 2)))) (nameG 6) (seqS (setS 7 (ifE (tB (bin eqV (sliceE (bin ixV (varE 6) (cE (.int 1))) none (some (cE (.int 3)))) (cE (.str "got")))) (bin addV (cE (.str "got ")) (callN strV (consA (bin ixV (varE 3) (callN intV (consA (sliceE (bin ixV (varE 6) (cE (.int 1))) (some (cE (.int 4))) none) nilA))) nilA))) (bin ixV (varE 6) (cE (.int 1)))))
    (seqS (setS 8 (ifE (tB (bin eqV (sliceE (bin ixV (varE 6) (cE (.int 3))) none (some (cE (.int 4)))) (cE (.str "send")))) (bin addV (cE (.str "send ")) (callN strV (consA (bin ixV (varE 3) (callN intV (consA (sliceE (bin ixV (varE 6) (cE (.int 3))) (some (cE (.int 5))) none) nilA))) nilA))) (bin ixV (varE 6) (cE (.int 3)))))
    (dropS (methE chkL appendV (varE 5) (consA (tupE (consA (bin ixV (varE 4) (bin ixV (varE 6) (cE (.int 0)))) (consA (varE 7) (consA (bin ixV (varE 4) (bin ixV (varE 6) (cE (.int 2)))) (consA (varE 8) nilA))))) nilA))))))
    (seqS (setS 5 (lcE (seqI (callF f__law_shuffled (consA (varE 0) (consA (varE 1) (consA (callN lenV (consA (varE 5) nilA)) nilA))))) (nameG 9) yesB (bin ixV (varE 5) (varE 9)) [9]))
    (retS (tupE (consA (bin ixV (varE 2) (cE (.int 0))) (consA (bin ixV (varE 4) (bin ixV (varE 2) (cE (.int 1)))) (consA (callN tupleV (consA (varE 5) nilA)) nilA)))))))))

def b__law_fit_rules : SS :=
  (seqS (setS 1 (lstE nilA))
    (seqS (setS 2 (lstE nilA))
    (seqS (forS (seqI (varE 0)) (nameG 3) (ifS (andB (tB (bin notInV (varE 3) (varE 1))) (andB (tB (bin ltV (callN lenV (consA (varE 1) nilA)) (cE (.int 12)))) (notB (andB (tB (bin eqV (bin ixV (varE 3) (cE (.int 1))) (cE (.str "pull")))) (tB (bin inV2 (bin ixV (varE 3) (cE (.int 0))) (varE 2))))))) (seqS (dropS (methE chkL appendV (varE 1) (consA (varE 3) nilA)))
    (ifS (tB (bin eqV (bin ixV (varE 3) (cE (.int 1))) (cE (.str "pull")))) (dropS (methE chkL appendV (varE 2) (consA (bin ixV (varE 3) (cE (.int 0))) nilA))) nextS)) nextS))
    (retS (callN tupleV (consA (varE 1) nilA))))))

def b__law_whens : SS :=
  (retS (lstE (consA (cE (.str "tick")) (consA (cE (.str "pull")) (consA (cE (.str "got 0")) (consA (cE (.str "got 1")) (consA (cE (.str "got 2")) (consA (cE (.str "got 3")) nilA))))))))

def b__law_acts : SS :=
  (retS (lstE (consA (cE (.str "none")) (consA (cE (.str "send 0")) (consA (cE (.str "send 1")) (consA (cE (.str "send 2")) (consA (cE (.str "send 3")) (consA (ifE (tB (varE 0)) (cE (.str "take")) (cE (.str "tell"))) nilA))))))))

def b__law_drawn_rule (f__law_pick : Fn) (f__law_whens : Fn) (f__law_acts : Fn) (f__law_take : Fn) : SS :=
  (seqS (setS 4 (callF f__law_pick (consA (varE 0) (consA (varE 1) (consA (callF f__law_whens nilA) nilA)))))
    (seqS (setS 5 (ifE (tB (bin eqV (varE 4) (cE (.str "pull")))) (cE (.str "none")) (callF f__law_pick (consA (varE 0) (consA (varE 1) (consA (callF f__law_acts (consA (varE 3) nilA)) nilA))))))
    (retS (tupE (consA (callF f__law_take (consA (varE 0) (consA (varE 1) (consA (varE 2) nilA)))) (consA (varE 4) (consA (callF f__law_take (consA (varE 0) (consA (varE 1) (consA (varE 2) nilA)))) (consA (varE 5) nilA))))))))

def b__law_varied (f__law_take : Fn) (f__law_drawn_rule : Fn) (f__law_pick : Fn) (f__law_acts : Fn) (f__law_whens : Fn) (f__law_fit_rules : Fn) : SS :=
  (seqS (asgS (varE 2) (seqG 3 (consG (nameG 4) (consG (nameG 5) (consG (nameG 6) nilG)))))
    (seqS (setS 6 (callN listV (consA (varE 6) nilA)))
    (seqS (setS 7 (callF f__law_take (consA (varE 0) (consA (varE 1) (consA (cE (.int 7)) nilA)))))
    (seqS (ifS (andB (tB (bin eqV (varE 7) (cE (.int 0)))) (tB (bin gtV (callN lenV (consA (varE 6) nilA)) (cE (.int 0))))) (dropS (methE chkL popV (varE 6) (consA (callF f__law_take (consA (varE 0) (consA (varE 1) (consA (callN lenV (consA (varE 6) nilA)) nilA)))) nilA))) (ifS (tB (bin eqV (varE 7) (cE (.int 1)))) (dropS (methE chkL insertV (varE 6) (consA (callF f__law_take (consA (varE 0) (consA (varE 1) (consA (bin addV (callN lenV (consA (varE 6) nilA)) (cE (.int 1))) nilA)))) (consA (callF f__law_drawn_rule (consA (varE 0) (consA (varE 1) (consA (varE 4) (consA (varE 3) nilA))))) nilA)))) (ifS (andB (tB (bin eqV (varE 7) (cE (.int 2)))) (tB (bin gtV (callN lenV (consA (varE 6) nilA)) (cE (.int 0))))) (seqS (setS 8 (callF f__law_take (consA (varE 0) (consA (varE 1) (consA (callN lenV (consA (varE 6) nilA)) nilA)))))
    (asgS (bin addV (sliceE (bin ixV (varE 6) (varE 8)) none (some (cE (.int 2)))) (tupE (consA (callF f__law_take (consA (varE 0) (consA (varE 1) (consA (varE 4) nilA)))) (consA (bin ixV (bin ixV (varE 6) (varE 8)) (cE (.int 3))) nilA)))) (subG setV (varE 6) (varE 8)))) (ifS (andB (tB (bin eqV (varE 7) (cE (.int 3)))) (tB (bin gtV (callN lenV (consA (varE 6) nilA)) (cE (.int 0))))) (seqS (setS 8 (callF f__law_take (consA (varE 0) (consA (varE 1) (consA (callN lenV (consA (varE 6) nilA)) nilA)))))
    (ifS (tB (bin neV (bin ixV (bin ixV (varE 6) (varE 8)) (cE (.int 1))) (cE (.str "pull")))) (asgS (bin addV (sliceE (bin ixV (varE 6) (varE 8)) none (some (cE (.int 3)))) (tupE (consA (callF f__law_pick (consA (varE 0) (consA (varE 1) (consA (callF f__law_acts (consA (varE 3) nilA)) nilA)))) nilA))) (subG setV (varE 6) (varE 8))) nextS)) (ifS (tB (bin eqV (varE 7) (cE (.int 4)))) (dropS (methE chkL appendV (varE 6) (consA (tupE (consA (callF f__law_take (consA (varE 0) (consA (varE 1) (consA (varE 4) nilA)))) (consA (cE (.str "pull")) (consA (callF f__law_take (consA (varE 0) (consA (varE 1) (consA (varE 4) nilA)))) (consA (cE (.str "none")) nilA))))) nilA))) (ifS (andB (tB (bin eqV (varE 7) (cE (.int 5)))) (tB (bin ltV (varE 4) (cE (.int 5))))) (setS 4 (bin addV (varE 4) (cE (.int 1)))) (dropS (methE chkL appendV (varE 6) (consA (tupE (consA (callF f__law_take (consA (varE 0) (consA (varE 1) (consA (varE 4) nilA)))) (consA (callF f__law_pick (consA (varE 0) (consA (varE 1) (consA (sliceE (callF f__law_whens nilA) (some (cE (.int 2))) none) nilA)))) (consA (callF f__law_take (consA (varE 0) (consA (varE 1) (consA (varE 4) nilA)))) (consA (cE (.str "none")) nilA))))) nilA)))))))))
    (retS (tupE (consA (varE 4) (consA (varE 5) (consA (callF f__law_fit_rules (consA (varE 6) nilA)) nilA)))))))))

def b__law_protocol (f__law_take : Fn) (f__law_drawn_rule : Fn) (f__law_fit_rules : Fn) (f__law_pick : Fn) (f__law_bases : Fn) (f__law_shuffled : Fn) (f__law_renamed : Fn) (f__law_varied : Fn) : SS :=
  (seqS (ifS (tB (bin eqV (callF f__law_take (consA (varE 0) (consA (varE 1) (consA (cE (.int 6)) nilA)))) (cE (.int 0)))) (seqS (setS 2 (lstE nilA))
    (seqS (forS (seqI (tupE (consA (cE (.bl true)) (consA (cE (.bl false)) nilA)))) (nameG 3) (seqS (setS 4 (bin addV (cE (.int 1)) (callF f__law_take (consA (varE 0) (consA (varE 1) (consA (cE (.int 5)) nilA))))))
    (seqS (setS 5 (lcE (rng1I (consA (callF f__law_take (consA (varE 0) (consA (varE 1) (consA (cE (.int 13)) nilA)))) nilA)) (nameG 6) yesB (callF f__law_drawn_rule (consA (varE 0) (consA (varE 1) (consA (varE 4) (consA (varE 3) nilA))))) [6]))
    (dropS (methE chkL appendV (varE 2) (consA (tupE (consA (varE 4) (consA (callF f__law_take (consA (varE 0) (consA (varE 1) (consA (varE 4) nilA)))) (consA (callF f__law_fit_rules (consA (varE 5) nilA)) nilA)))) nilA))))))
    (retS (callN tupleV (consA (varE 2) nilA))))) nextS)
    (seqS (setS 7 (callF f__law_pick (consA (varE 0) (consA (varE 1) (consA (callF f__law_bases nilA) nilA)))))
    (seqS (setS 8 (callF f__law_shuffled (consA (varE 0) (consA (varE 1) (consA (cE (.int 4)) nilA)))))
    (seqS (asgS (tupE (consA (callF f__law_renamed (consA (varE 0) (consA (varE 1) (consA (bin ixV (varE 7) (cE (.int 0))) (consA (varE 8) nilA))))) (consA (callF f__law_renamed (consA (varE 0) (consA (varE 1) (consA (bin ixV (varE 7) (cE (.int 1))) (consA (varE 8) nilA))))) nilA))) (seqG 2 (consG (nameG 3) (consG (nameG 9) nilG))))
    (seqS (forS (rng1I (consA (bin ixV (lstE (consA (cE (.int 0)) (consA (cE (.int 1)) (consA (cE (.int 1)) (consA (cE (.int 2)) (consA (cE (.int 3)) nilA)))))) (callF f__law_take (consA (varE 0) (consA (varE 1) (consA (cE (.int 5)) nilA))))) nilA)) (nameG 6) (ifS (tB (bin eqV (callF f__law_take (consA (varE 0) (consA (varE 1) (consA (cE (.int 2)) nilA)))) (cE (.int 0)))) (setS 3 (callF f__law_varied (consA (varE 0) (consA (varE 1) (consA (varE 3) (consA (cE (.bl true)) nilA)))))) (setS 9 (callF f__law_varied (consA (varE 0) (consA (varE 1) (consA (varE 9) (consA (cE (.bl false)) nilA))))))))
    (retS (tupE (consA (varE 3) (consA (varE 9) nilA)))))))))

def b__law_either (f__law_either : Fn) (f__law_take : Fn) : SS :=
  (seqS (ifS (tB (callN isiV (consA (varE 2) (consA (cE (.ty "tuple")) nilA)))) (seqS (setS 3 (lcE (seqI (varE 2)) (nameG 4) yesB (callF f__law_either (consA (varE 0) (consA (varE 1) (consA (varE 4) nilA)))) [4]))
    (retS (ifE (tB (bin eqV (callF f__law_take (consA (varE 0) (consA (varE 1) (consA (cE (.int 2)) nilA)))) (cE (.int 0)))) (varE 3) (callN tupleV (consA (varE 3) nilA))))) nextS)
    (retS (varE 2)))

def b__law_listed (f__law_listed : Fn) : SS :=
  (seqS (ifS (tB (callN isiV (consA (varE 0) (consA (cE (.ty "tuple")) nilA)))) (retS (lcE (seqI (varE 0)) (nameG 1) yesB (callF f__law_listed (consA (varE 1) nilA)) [1])) nextS)
    (retS (varE 0)))

def b__law_handed (f__law_take : Fn) (f__law_either : Fn) (f__law_listed : Fn) : SS :=
  (seqS (setS 3 (callF f__law_take (consA (varE 0) (consA (varE 1) (consA (cE (.int 3)) nilA)))))
    (seqS (ifS (tB (bin eqV (varE 3) (cE (.int 2)))) (retS (callF f__law_either (consA (varE 0) (consA (varE 1) (consA (varE 2) nilA))))) nextS)
    (retS (ifE (tB (bin eqV (varE 3) (cE (.int 0)))) (callF f__law_listed (consA (varE 2) nilA)) (varE 2)))))

def b__law_spoilt_protocol (f__law_take : Fn) (f__law_spoilt_protocol : Fn) (f__law_pick : Fn) (f__law_whens : Fn) : SS :=
  (seqS (ifS (andB (tB (callN isiV (consA (varE 2) (consA (cE (.ty "tuple")) nilA)))) (andB (tB (bin gtV (callN lenV (consA (varE 2) nilA)) (cE (.int 0)))) (tB (bin gtV (callF f__law_take (consA (varE 0) (consA (varE 1) (consA (cE (.int 6)) nilA)))) (cE (.int 0)))))) (seqS (setS 3 (callF f__law_take (consA (varE 0) (consA (varE 1) (consA (callN lenV (consA (varE 2) nilA)) nilA)))))
    (retS (bin addV (bin addV (sliceE (varE 2) none (some (varE 3))) (tupE (consA (callF f__law_spoilt_protocol (consA (varE 0) (consA (varE 1) (consA (bin ixV (varE 2) (varE 3)) nilA)))) nilA))) (sliceE (varE 2) (some (bin addV (varE 3) (cE (.int 1)))) none)))) nextS)
    (seqS (setS 4 (callF f__law_take (consA (varE 0) (consA (varE 1) (consA (cE (.int 6)) nilA)))))
    (seqS (ifS (andB (tB (callN isiV (consA (varE 2) (consA (cE (.ty "tuple")) nilA)))) (andB (tB (bin eqV (varE 4) (cE (.int 0)))) (tB (bin gtV (callN lenV (consA (varE 2) nilA)) (cE (.int 0)))))) (retS (bin addV (varE 2) (sliceE (varE 2) none (some (cE (.int 1)))))) nextS)
    (seqS (ifS (andB (tB (callN isiV (consA (varE 2) (consA (cE (.ty "tuple")) nilA)))) (andB (tB (bin eqV (varE 4) (cE (.int 1)))) (tB (bin gtV (callN lenV (consA (varE 2) nilA)) (cE (.int 0)))))) (retS (sliceE (varE 2) (some (cE (.int 1))) none)) nextS)
    (seqS (ifS (andB (tB (callN isiV (consA (varE 2) (consA (cE (.ty "tuple")) nilA)))) (andB (tB (bin eqV (varE 4) (cE (.int 2)))) (tB (bin gtV (callN lenV (consA (varE 2) nilA)) (cE (.int 1)))))) (retS (bin addV (sliceE (varE 2) (some (cE (.int 1))) none) (sliceE (varE 2) none (some (cE (.int 1)))))) nextS)
    (seqS (ifS (andB (tB (callN isiV (consA (varE 2) (consA (cE (.ty "int")) nilA)))) (tB (bin ltV (varE 4) (cE (.int 4))))) (retS (bin ixV (lstE (consA (bin addV (varE 2) (cE (.int 1))) (consA (bin subV (varE 2) (cE (.int 1))) (consA (cE (.int 0)) (consA (cE (.int 4)) (consA (cE (.int 5)) (consA (cE (.int 6)) (consA (cE .non) (consA (cE (.bl true)) nilA))))))))) (callF f__law_take (consA (varE 0) (consA (varE 1) (consA (cE (.int 8)) nilA)))))) nextS)
    (seqS (ifS (andB (tB (callN isiV (consA (varE 2) (consA (cE (.ty "str")) nilA)))) (tB (bin ltV (varE 4) (cE (.int 4))))) (retS (callF f__law_pick (consA (varE 0) (consA (varE 1) (consA (bin addV (callF f__law_whens nilA) (lstE (consA (cE (.str "none")) (consA (cE (.str "send 0")) (consA (cE (.str "send 4")) (consA (cE (.str "take")) (consA (cE (.str "tell")) (consA (cE (.str "got 4")) (consA (cE (.str "got")) (consA (cE (.str "got  0")) (consA (cE (.str "Tick")) (consA (cE (.str "got 01")) nilA)))))))))))) nilA))))) nextS)
    (retS (bin ixV (lstE (consA (cE .non) (consA (cE (.int 7)) (consA (cE (.bl true)) (consA (cE (.str "")) (consA (tupE nilA) (consA (tupE (consA (cE (.int 0)) (consA (cE (.str "tick")) (consA (cE (.int 0)) (consA (cE (.str "none")) nilA))))) (consA (tupE (consA (cE (.int 1)) (consA (cE (.int 0)) (consA (tupE nilA) nilA)))) (consA (cE (.str "a")) nilA))))))))) (callF f__law_take (consA (varE 0) (consA (varE 1) (consA (cE (.int 8)) nilA)))))))))))))

def b__law_so (f__law_so : Fn) : SS :=
  (seqS (ifS (tB (bin isV (varE 1) (cE .non))) (retS (bin isV (varE 0) (cE .non))) nextS)
    (seqS (ifS (tB (callN isiV (consA (varE 1) (consA (cE (.ty "tuple")) nilA)))) (seqS (ifS (orB (notB (tB (callN isiV (consA (varE 0) (consA (cE (.ty "tuple")) nilA))))) (tB (bin neV (callN lenV (consA (varE 0) nilA)) (callN lenV (consA (varE 1) nilA))))) (retS (cE (.bl false))) nextS)
    (seqS (forS (rng1I (consA (callN lenV (consA (varE 1) nilA)) nilA)) (nameG 2) (ifS (notB (tB (callF f__law_so (consA (bin ixV (varE 0) (varE 2)) (consA (bin ixV (varE 1) (varE 2)) nilA))))) (retS (cE (.bl false))) nextS))
    (retS (cE (.bl true))))) nextS)
    (seqS (ifS (orB (tB (callN isiV (consA (varE 1) (consA (cE (.ty "bool")) nilA)))) (tB (callN isiV (consA (varE 0) (consA (cE (.ty "bool")) nilA))))) (retS (andV (callN isiV (consA (varE 1) (consA (cE (.ty "bool")) nilA))) (andV (callN isiV (consA (varE 0) (consA (cE (.ty "bool")) nilA))) (bin eqV (varE 0) (varE 1))))) nextS)
    (seqS (ifS (tB (callN isiV (consA (varE 1) (consA (cE (.ty "int")) nilA)))) (retS (andV (callN isiV (consA (varE 0) (consA (cE (.ty "int")) nilA))) (bin eqV (varE 0) (varE 1)))) nextS)
    (retS (andV (callN isiV (consA (varE 1) (consA (cE (.ty "str")) nilA))) (andV (callN isiV (consA (varE 0) (consA (cE (.ty "str")) nilA))) (bin eqV (varE 0) (varE 1)))))))))

def b_is_sequence : SS :=
  (retS (callN isiV (consA (varE 0) (consA (tupE (consA (cE (.ty "list")) (consA (cE (.ty "tuple")) nilA))) nilA))))

def b_is_row (f_is_sequence : Fn) : SS :=
  (retS (andV (callF f_is_sequence (consA (varE 0) nilA)) (bin eqV (callN lenV (consA (varE 0) nilA)) (varE 1))))

def b_is_integer : SS :=
  (retS (andV (callN isiV (consA (varE 0) (consA (cE (.ty "int")) nilA))) (notV (callN isiV (consA (varE 0) (consA (cE (.ty "bool")) nilA))))))

def b_is_integer_from (f_is_integer : Fn) : SS :=
  (retS (andV (callF f_is_integer (consA (varE 0) nilA)) (chainE leV leV (varE 1) (varE 0) (varE 2))))

def b_is_rule (f_is_row : Fn) (f_is_integer_from : Fn) : SS :=
  (seqS (ifS (notB (tB (callF f_is_row (consA (varE 0) (consA (cE (.int 4)) nilA))))) (retS (cE (.bl false))) nextS)
    (seqS (asgS (varE 0) (seqG 4 (consG (nameG 2) (consG (nameG 3) (consG (nameG 4) (consG (nameG 5) nilG))))))
    (seqS (ifS (orB (notB (tB (callF f_is_integer_from (consA (varE 2) (consA (cE (.int 0)) (consA (bin subV (varE 1) (cE (.int 1))) nilA)))))) (notB (tB (callF f_is_integer_from (consA (varE 4) (consA (cE (.int 0)) (consA (bin subV (varE 1) (cE (.int 1))) nilA))))))) (retS (cE (.bl false))) nextS)
    (seqS (ifS (orB (tB (bin notInV (varE 3) (cE v_WHENS))) (tB (bin notInV (varE 5) (cE v_ACTS)))) (retS (cE (.bl false))) nextS)
    (retS (orV (bin neV (varE 3) (cE (.str "pull"))) (bin eqV (varE 5) (cE (.str "none")))))))))

def b_is_side (f_is_row : Fn) (f_is_integer_from : Fn) (f_is_sequence : Fn) (f_is_rule : Fn) (f_are_different : Fn) : SS :=
  (seqS (ifS (notB (tB (callF f_is_row (consA (varE 0) (consA (cE (.int 3)) nilA))))) (retS (cE (.bl false))) nextS)
    (seqS (asgS (varE 0) (seqG 3 (consG (nameG 2) (consG (nameG 3) (consG (nameG 4) nilG)))))
    (seqS (ifS (orB (notB (tB (callF f_is_integer_from (consA (varE 2) (consA (cE (.int 1)) (consA (cE v_MOST_STATES) nilA)))))) (notB (tB (callF f_is_integer_from (consA (varE 3) (consA (cE (.int 0)) (consA (bin subV (varE 2) (cE (.int 1))) nilA))))))) (retS (cE (.bl false))) nextS)
    (seqS (ifS (orB (notB (tB (callF f_is_sequence (consA (varE 4) nilA)))) (tB (bin gtV (callN lenV (consA (varE 4) nilA)) (cE v_MOST_RULES)))) (retS (cE (.bl false))) nextS)
    (seqS (ifS (notB (tB (callN allV (consA (lcE (seqI (varE 4)) (nameG 5) yesB (callF f_is_rule (consA (varE 5) (consA (varE 2) nilA))) [5]) nilA)))) (retS (cE (.bl false))) nextS)
    (seqS (setS 6 (lcE (seqI (varE 4)) (nameG 5) (tB (bin eqV (bin ixV (varE 5) (cE (.int 1))) (cE (.str "pull")))) (bin ixV (varE 5) (cE (.int 0))) [5]))
    (seqS (setS 7 (lcE (seqI (varE 4)) (nameG 5) yesB (bin ixV (varE 5) (cE (.int 3))) [5]))
    (retS (andV (callF f_are_different (consA (lcE (seqI (varE 4)) (nameG 5) yesB (callN tupleV (consA (varE 5) nilA)) [5]) nilA)) (andV (callF f_are_different (consA (varE 6) nilA)) (bin notInV (varE 1) (varE 7))))))))))))

def b_is_protocol (f_is_row : Fn) (f_is_side : Fn) : SS :=
  (retS (andV (callF f_is_row (consA (varE 0) (consA (cE (.int 2)) nilA))) (andV (callF f_is_side (consA (bin ixV (varE 0) (cE (.int 0))) (consA (cE (.str "tell")) nilA))) (callF f_is_side (consA (bin ixV (varE 0) (cE (.int 1))) (consA (cE (.str "take")) nilA))))))

def b__law_tupled (f__law_tupled : Fn) : SS :=
  (seqS (ifS (orB (tB (callN isiV (consA (varE 0) (consA (cE (.ty "list")) nilA)))) (tB (callN isiV (consA (varE 0) (consA (cE (.ty "tuple")) nilA))))) (retS (callN tupleV (consA (lcE (seqI (varE 0)) (nameG 1) yesB (callF f__law_tupled (consA (varE 1) nilA)) [1]) nilA))) nextS)
    (retS (varE 0)))

def b__law_whole : SS :=
  (retS (andV (callN isiV (consA (varE 0) (consA (cE (.ty "int")) nilA))) (notV (callN isiV (consA (varE 0) (consA (cE (.ty "bool")) nilA))))))

def b__law_is_side (f__law_whole : Fn) (f__law_whens : Fn) (f__law_acts : Fn) : SS :=
  (seqS (ifS (orB (notB (tB (callN isiV (consA (varE 0) (consA (cE (.ty "tuple")) nilA))))) (orB (tB (bin neV (callN lenV (consA (varE 0) nilA)) (cE (.int 3)))) (orB (notB (tB (callF f__law_whole (consA (bin ixV (varE 0) (cE (.int 0))) nilA)))) (notB (tB (chainE leV leV (cE (.int 1)) (bin ixV (varE 0) (cE (.int 0))) (cE (.int 5)))))))) (retS (cE (.bl false))) nextS)
    (seqS (ifS (orB (notB (tB (callF f__law_whole (consA (bin ixV (varE 0) (cE (.int 1))) nilA)))) (orB (notB (tB (chainE leV ltV (cE (.int 0)) (bin ixV (varE 0) (cE (.int 1))) (bin ixV (varE 0) (cE (.int 0)))))) (orB (notB (tB (callN isiV (consA (bin ixV (varE 0) (cE (.int 2))) (consA (cE (.ty "tuple")) nilA))))) (tB (bin gtV (callN lenV (consA (bin ixV (varE 0) (cE (.int 2))) nilA)) (cE (.int 12))))))) (retS (cE (.bl false))) nextS)
    (seqS (setS 2 (lstE nilA))
    (seqS (forS (rng1I (consA (callN lenV (consA (bin ixV (varE 0) (cE (.int 2))) nilA)) nilA)) (nameG 3) (seqS (setS 4 (bin ixV (bin ixV (varE 0) (cE (.int 2))) (varE 3)))
    (seqS (ifS (orB (notB (tB (callN isiV (consA (varE 4) (consA (cE (.ty "tuple")) nilA))))) (orB (tB (bin neV (callN lenV (consA (varE 4) nilA)) (cE (.int 4)))) (orB (notB (tB (callF f__law_whole (consA (bin ixV (varE 4) (cE (.int 0))) nilA)))) (notB (tB (callF f__law_whole (consA (bin ixV (varE 4) (cE (.int 2))) nilA))))))) (retS (cE (.bl false))) nextS)
    (seqS (ifS (orB (notB (tB (chainE leV ltV (cE (.int 0)) (bin ixV (varE 4) (cE (.int 0))) (bin ixV (varE 0) (cE (.int 0)))))) (orB (notB (tB (chainE leV ltV (cE (.int 0)) (bin ixV (varE 4) (cE (.int 2))) (bin ixV (varE 0) (cE (.int 0)))))) (orB (notB (tB (callN isiV (consA (bin ixV (varE 4) (cE (.int 1))) (consA (cE (.ty "str")) nilA))))) (notB (tB (callN isiV (consA (bin ixV (varE 4) (cE (.int 3))) (consA (cE (.ty "str")) nilA)))))))) (retS (cE (.bl false))) nextS)
    (seqS (ifS (orB (tB (bin notInV (bin ixV (varE 4) (cE (.int 1))) (callF f__law_whens nilA))) (orB (tB (bin notInV (bin ixV (varE 4) (cE (.int 3))) (callF f__law_acts (consA (varE 1) nilA)))) (tB (bin inV2 (varE 4) (sliceE (bin ixV (varE 0) (cE (.int 2))) none (some (varE 3))))))) (retS (cE (.bl false))) nextS)
    (seqS (ifS (andB (tB (bin eqV (bin ixV (varE 4) (cE (.int 1))) (cE (.str "pull")))) (orB (tB (bin neV (bin ixV (varE 4) (cE (.int 3))) (cE (.str "none")))) (tB (bin inV2 (bin ixV (varE 4) (cE (.int 0))) (varE 2))))) (retS (cE (.bl false))) nextS)
    (ifS (tB (bin eqV (bin ixV (varE 4) (cE (.int 1))) (cE (.str "pull")))) (dropS (methE chkL appendV (varE 2) (consA (bin ixV (varE 4) (cE (.int 0))) nilA))) nextS)))))))
    (retS (cE (.bl true)))))))

def b__law_is_protocol (f__law_is_side : Fn) : SS :=
  (seqS (ifS (orB (notB (tB (callN isiV (consA (varE 0) (consA (cE (.ty "tuple")) nilA))))) (tB (bin neV (callN lenV (consA (varE 0) nilA)) (cE (.int 2))))) (retS (cE (.bl false))) nextS)
    (retS (andV (callF f__law_is_side (consA (bin ixV (varE 0) (cE (.int 0))) (consA (cE (.bl true)) nilA))) (callF f__law_is_side (consA (bin ixV (varE 0) (cE (.int 1))) (consA (cE (.bl false)) nilA))))))

def b_law (f__law_numbers : Fn) (f__law_protocol : Fn) (f__law_handed : Fn) (f__law_so : Fn) (f_is_protocol : Fn) (f__law_tupled : Fn) (f__law_spoilt_protocol : Fn) (f__law_is_protocol : Fn) (f__law_whens : Fn) : SS :=
  (seqS (setS 1 (callF f__law_numbers (consA (varE 0) nilA)))
    (seqS (setS 2 (lstE (consA (cE (.int 0)) nilA)))
    (seqS (setS 3 (callF f__law_protocol (consA (varE 1) (consA (varE 2) nilA))))
    (seqS (setS 4 (callF f__law_handed (consA (varE 1) (consA (varE 2) (consA (varE 3) nilA)))))
    (seqS (ifS (orB (notB (tB (callF f__law_so (consA (callF f_is_protocol (consA (varE 4) nilA)) (consA (cE (.bl true)) nilA))))) (notB (tB (callF f__law_so (consA (callF f__law_tupled (consA (varE 4) nilA)) (consA (varE 3) nilA)))))) (retS (cE (.bl false))) nextS)
    (seqS (forS (rng1I (consA (cE (.int 8)) nilA)) (nameG 5) (seqS (setS 6 (callF f__law_spoilt_protocol (consA (varE 1) (consA (varE 2) (consA (varE 3) nilA)))))
    (ifS (notB (tB (callF f__law_so (consA (callF f_is_protocol (consA (callF f__law_handed (consA (varE 1) (consA (varE 2) (consA (varE 6) nilA)))) nilA)) (consA (callF f__law_is_protocol (consA (varE 6) nilA)) nilA))))) (retS (cE (.bl false))) nextS)))
    (seqS (setS 7 (tupE (consA (cE (.int 1)) (consA (cE (.int 0)) (consA (tupE nilA) nilA)))))
    (seqS (forS (seqI (tupE (consA (cE (.int 11)) (consA (cE (.int 12)) (consA (cE (.int 13)) nilA))))) (nameG 8) (seqS (setS 9 (callN tupleV (consA (lcE (rng1I (consA (varE 8) nilA)) (nameG 10) yesB (tupE (consA (bin fdivV (varE 10) (cE (.int 6))) (consA (bin ixV (callF f__law_whens nilA) (bin modV (callN intV (consA (varE 10) nilA)) (cE (.int 6)))) (consA (cE (.int 0)) (consA (cE (.str "none")) nilA))))) [10]) nilA)))
    (forS (seqI (tupE (consA (tupE (consA (tupE (consA (cE (.int 3)) (consA (cE (.int 0)) (consA (varE 9) nilA)))) (consA (varE 7) nilA))) (consA (tupE (consA (varE 7) (consA (tupE (consA (cE (.int 3)) (consA (cE (.int 2)) (consA (varE 9) nilA)))) nilA))) (consA (tupE (consA (tupE (consA (cE (.int 5)) (consA (cE (.int 4)) (consA (varE 9) nilA)))) (consA (tupE (consA (cE (.int 6)) (consA (cE (.int 0)) (consA (tupE nilA) nilA)))) nilA))) nilA))))) (nameG 11) (ifS (notB (tB (callF f__law_so (consA (callF f_is_protocol (consA (callF f__law_handed (consA (varE 1) (consA (varE 2) (consA (varE 11) nilA)))) nilA)) (consA (callF f__law_is_protocol (consA (varE 11) nilA)) nilA))))) (retS (cE (.bl false))) nextS))))
    (seqS (forS (seqI (tupE (consA (tupE (consA (tupE (consA (cE (.int 0)) (consA (cE (.str "pull")) (consA (cE (.int 0)) (consA (cE (.str "none")) nilA))))) (consA (tupE (consA (cE (.int 0)) (consA (cE (.str "pull")) (consA (cE (.int 1)) (consA (cE (.str "none")) nilA))))) nilA))) (consA (tupE (consA (tupE (consA (cE (.int 0)) (consA (cE (.str "pull")) (consA (cE (.int 1)) (consA (cE (.str "take")) nilA))))) nilA)) (consA (tupE (consA (tupE (consA (cE (.int 0)) (consA (cE (.str "tick")) (consA (cE (.int 1)) (consA (cE (.str "tell")) nilA))))) nilA)) (consA (tupE (consA (tupE (consA (cE (.int 0)) (consA (cE (.str "tick")) (consA (cE (.int 1)) (consA (cE (.str "take")) nilA))))) nilA)) nilA)))))) (nameG 9) (forS (seqI (tupE (consA (tupE (consA (tupE (consA (cE (.int 2)) (consA (cE (.int 0)) (consA (varE 9) nilA)))) (consA (varE 7) nilA))) (consA (tupE (consA (varE 7) (consA (tupE (consA (cE (.int 2)) (consA (cE (.int 0)) (consA (varE 9) nilA)))) nilA))) nilA)))) (nameG 11) (ifS (notB (tB (callF f__law_so (consA (callF f_is_protocol (consA (varE 11) nilA)) (consA (callF f__law_is_protocol (consA (varE 11) nilA)) nilA))))) (retS (cE (.bl false))) nextS)))
    (retS (cE (.bl true))))))))))))
end Sh
set_option linter.all false
set_option maxRecDepth 100000
set_option
        maxHeartbeats 4000000
/-! MA: the laws' own draws: what they leave, and that they come to an end. -/
namespace Sh
open PySem PySem.Spec
        PyProof.Rows L2

/-! ### lists in the store -/
theorem listAt_set_ne {mem : Mem} {a b : Nat} {c : Cell} (h : a ≠ b) : listAt (mem.set a c) b = listAt mem b := by
  unfold listAt
  rw [List.getElem?_set_ne h]
theorem listAt_lt {mem : Mem} {a : Nat} {ys : List W} (h : listAt mem a = some ys) : a < mem.length := (List.getElem?_eq_some_iff.mp (listAt_some h)).1
theorem listAt_set {mem : Mem} {a : Nat} {xs ys : List W} (h : listAt mem a = some ys) : listAt (mem.set a (.lst xs)) a = some xs := by
  unfold listAt
  rw [List.getElem?_set_self (listAt_lt h)]
theorem listAt_app {mem : Mem} {a : Nat} {ys : List W} {r : Mem} (h : listAt mem a = some ys) : listAt (mem ++ r) a = some ys := by
  unfold listAt at h ⊢
  rw [List.getElem?_append_left (listAt_lt h)]
  exact h
theorem listAt_new {mem : Mem} {xs : List W} : listAt (mem ++ [.lst xs]) mem.length = some xs := by
  unfold listAt
  rw [List.getElem?_append_right (Nat.le_refl _), Nat.sub_self]
  rfl
theorem chk_loc {m : Mem} {n : Nat} {xs : List W} (h : listAt m n = some xs) : chkL (.loc n) m = true := by
  show (listAt m n).isSome = true
  rw [h]
  rfl
theorem append_loc {m : Mem} {n : Nat} {xs : List W} {w : W} (h : listAt m n = some xs) (hz : xs.length < sizeLine) : appendV (.loc n) [w] m = some (.non, m.set n (.lst (xs ++ [w]))) := by
  unfold appendV
  dsimp only
  rw [h]
  dsimp only [Option.bind]
  rw [if_pos hz]
/-- all cells but s stay -/
def Kp (s : Nat) (mem mem' : Mem) : Prop := ∀ i c, i ≠ s → mem[i]? = some c → mem'[i]? = some c
theorem Kp.refl {s : Nat} {mem : Mem} : Kp s mem mem := fun _ _ _ h => h
theorem Kp.trans {s : Nat} {a b c : Mem} (h : Kp s a b) (k : Kp s b c) : Kp s a c := fun i x n e => k i x n (h i x n e)
theorem Kp.list {s : Nat} {a b : Mem} (h : Kp s a b) {i : Nat} {xs : List W} (n : i ≠ s) (e : listAt a i = some xs) : listAt b i = some xs := by
  have := h i _ n (listAt_some e)
  unfold listAt
  rw [this]
theorem Kp.app {s : Nat} {a r : Mem} : Kp s a (a ++ r) := fun i c _ e => by
  rw [List.getElem?_append_left (List.getElem?_eq_some_iff.mp e).1]
  exact e
theorem Kp.set {s : Nat} {a : Mem} {c : Cell} : Kp s a (a.set s c) := fun i d n e => by rw [List.getElem?_set_ne (Ne.symm n)]; exact e
theorem Kp.len {s : Nat} {a b : Mem} (h : Kp s a b) {i : Nat} (n : i ≠ s) (l : i < a.length) : i < b.length :=
  (List.getElem?_eq_some_iff.mp (h i _ n (List.getElem?_eq_getElem l))).1
/-- the draws' row at r, their place at s -/
structure Dr (r s : Nat) (row : List Int) (mem : Mem) : Prop where
  ne : r ≠ s
  hrow : listAt mem r = some (row.map W.int)
  pos : 0 < List.length row
  spot : ∃ n : Int, 0 ≤ n ∧ listAt mem s = some [.int n]
theorem Dr.kp {r s : Nat} {row : List Int} {a b : Mem} (d : Dr r s row a) (k : Kp s a b) (h : ∃ n : Int, 0 ≤ n ∧ listAt b s = some [.int n]) : Dr r s row b := ⟨d.ne, k.list d.ne d.hrow, d.pos, h⟩
theorem Dr.app {r s : Nat} {row : List Int} {a x : Mem} (d : Dr r s row a) : Dr r s row (a ++ x) := by
  obtain ⟨n, h0, h⟩ := d.spot
  exact ⟨d.ne, listAt_app d.hrow, d.pos, n, h0, listAt_app h⟩
/-- a change at a third place -/
theorem Dr.set {r s i : Nat} {row : List Int} {a : Mem} {c : Cell} (d : Dr r s row a) (h1 : i ≠ r) (h2 : i ≠ s) : Dr r s row (a.set i c) := by
  obtain ⟨n, h0, h⟩ := d.spot
  exact ⟨d.ne, by rw [listAt_set_ne h1]; exact d.hrow, d.pos, n, h0, by rw [listAt_set_ne h2]; exact h⟩

theorem atI_int {row : List Int} {i : Int} (h0 : 0 ≤ i) (h1 : i < row.length) : atI (row.map W.int) i = some (.int (row.getD i.toNat 0)) := by
  have hl : i.toNat < row.length := by omega
  unfold atI ixN
  rw [List.length_map, if_pos h0, if_pos h1]
  show (row.map W.int)[i.toNat]? = _
  rw [List.getElem?_map, List.getElem?_eq_getElem hl, List.getD_eq_getElem?_getD, List.getElem?_eq_getElem hl]
  rfl
def noX' : Exc → Mem → Prop := fun _ _ => False
theorem draw_ok {row : List Int} {i lim : Int} {r : Nat} {mem : Mem} (hr : listAt mem r = some (row.map W.int)) (hne : 0 < row.length) (h0 : 0 ≤ i) (hl : 0 < lim) :
    ∃ v : Int, 0 ≤ v ∧ v < lim ∧ runB 4 b__law_draw [.loc r, .int i, .int lim] mem = .ok (.int v) mem := by
  by_cases h : i < row.length
  · exact ⟨row.getD i.toNat 0 % lim, Int.emod_nonneg _ (by omega), Int.emod_lt_of_pos _ hl, by
      simp [runB, b__law_draw, startE, seqS, ifS, ofE, tB, bin, SM.bind, varE, callN, consA, nilA, SM.pure, lift, lenV, hr, ltV, iiV, h, retS, modV, intV, ixV, atI_int h0 h, hl]⟩
  · have h2 : 0 ≤ i % (row.length : Int) := Int.emod_nonneg _ (by omega)
    have h3 : i % (row.length : Int) < row.length := Int.emod_lt_of_pos _ (by omega)
    exact ⟨((((row.getD (i % row.length).toNat 0 * 40692 + i * 7919 + 3) % 2147483399) * 48271 + i) % 2147483647) % lim, Int.emod_nonneg _ (by omega), Int.emod_lt_of_pos _ hl, by
      simp [runB, b__law_draw, startE, seqS, ifS, ofE, tB, bin, SM.bind, varE, callN, consA, nilA, SM.pure, lift, lenV, hr, ltV, iiV, h, retS, modV, intV, ixV, atI_int h2 h3, hl, nextS, setS, cE, addV, mulV, hne]⟩
def F_draw : Fn := runB 4 b__law_draw
def F_take : Fn := runB 3 (b__law_take F_draw)
theorem ixN0 {n : Nat} (h : 0 < n) : ixN n 0 = some 0 := by
  unfold ixN
  rw [if_pos (by decide), if_pos (by omega)]
  rfl
/-- a draw below lim -/
theorem take_ok {row : List Int} {lim : Int} {r s : Nat} {mem : Mem} (d : Dr r s row mem) (hl : 0 < lim) :
    ∃ v n : Int, 0 ≤ v ∧ v < lim ∧ 0 ≤ n ∧ F_take [.loc r, .loc s, .int lim] mem = .ok (.int v) (mem.set s (.lst [.int n])) ∧ Dr r s row (mem.set s (.lst [.int n])) := by
  obtain ⟨n, h0, hs⟩ := d.spot
  have hs1 := listAt_set (xs := [.int (n + 1)]) hs
  have hr1 : listAt (mem.set s (.lst [.int (n + 1)])) r = some (row.map W.int) := by rw [listAt_set_ne (Ne.symm d.ne)]; exact d.hrow
  obtain ⟨v, v0, v1, (e : F_draw _ _ = _)⟩ := draw_ok (i := n) (lim := lim) hr1 d.pos h0 hl
  refine ⟨v, n + 1, v0, v1, by omega, ?_, d.ne, hr1, d.pos, n + 1, by omega, hs1⟩
  have a0 : atI [W.int n] 0 = some (.int n) := rfl
  have a1 : atI [W.int (n + 1)] 0 = some (.int (n + 1)) := rfl
  have x0 : ixN 1 0 = some 0 := rfl
  simp [F_take, runB, b__law_take, startE, seqS, asgS, ofE, bin, SM.bind, varE, callN, consA, nilA, SM.pure, lift, ixV, hs, a0, addV, cE, subG, setV, x0, retS, callF, hs1, a1, subV, iiV, e]
/-- as a wish -/
theorem take_post {row : List Int} {lim : Int} {r s : Nat} {mem : Mem} {Q : W → Mem → Prop} {ex : Exc → Mem → Prop} (d : Dr r s row mem) (hl : 0 < lim)
    (h : ∀ v m, 0 ≤ v → v < lim → Dr r s row m → Kp s mem m → m.length = mem.length → Q (.int v) m) : (F_take [.loc r, .loc s, .int lim] mem).Post Q ex := by
  obtain ⟨v, n, v0, v1, _, e, d'⟩ := take_ok d hl
  rw [e]
  exact h v _ v0 v1 d' Kp.set (by rw [List.length_set])
end Sh
set_option linter.all false
set_option maxRecDepth 100000
set_option
        maxHeartbeats 4000000
/-! MB: picks, shuffles, numbers. -/
namespace Sh
open PySem PySem.Spec
        PyProof.Rows L2

/-- run the straight part of a computation -/
local macro_rules | `(tactic| walk_at "sh") => `(tactic| simp only [wr_run, ws_seq, ws_ret, ws_retN, ws_next, ws_brk, ws_ct, ws_drop, ws_set, ws_if, ws_asg, ws_par, ws_aug, ws_for, wp_ok, wp_bad, wp_pure, wp_bind, wp_lift, wp_lift0, wp_var, wp_c, wp_bin, wp_un, wp_callN, wp_callF, wp_nil, wp_cons, wp_tup, wp_lst, wp_andV, wp_orV, wp_notV, wp_ifE, wp_tB, wp_andB, wp_orB, wp_notB, wp_chain, wp_optN, wp_optS, wp_slice, wp_meth, wp_lr, wp_lc, wp_seqI, wp_rng1, wg_name, wg_nil, wg_cons, wg_seq, wg_sub, startE, List.map_cons, List.map_nil, List.length_cons, List.length_nil, List.getElem?_cons_zero, List.getElem?_cons_succ, List.cons_append, List.nil_append, List.set_cons_zero, List.set_cons_succ, List.replicate_succ, List.replicate_zero, Nat.reduceSub, Nat.reduceAdd, isB, if_true, if_false, Bool.false_eq_true, Bool.not_true, Bool.not_false, reduceIte, yesB])
theorem lenV_items {mem : Mem} {w : W} {xs : List W} (h : itemsOf mem w = some xs) : lenV [w] mem = some (.int xs.length, mem) := by
  cases w with
  | tup ys => cases h; rfl
  | rol ys => cases h; rfl
  | loc n => have h' : listAt mem n = some xs := h; unfold lenV; dsimp only; rw [h']; rfl
  | _ => cases h
theorem ixV_items {mem : Mem} {w : W} {xs : List W} {i : Int} (h : itemsOf mem w = some xs) : ixV w (.int i) mem = (atI xs i).map fun x => (x, mem) := by
  cases w with
  | tup ys => cases h; rfl
  | rol ys => cases h; rfl
  | loc n => have h' : listAt mem n = some xs := h; unfold ixV; dsimp only; rw [h']; rfl
  | _ => cases h
theorem atI_at {α : Type} {xs : List α} {i : Int} (h0 : 0 ≤ i) (h1 : i < xs.length) : ∃ x, xs[i.toNat]? = some x ∧ atI xs i = some x := by
  have hl : i.toNat < xs.length := by omega
  refine ⟨xs[i.toNat], List.getElem?_eq_getElem hl, ?_⟩
  unfold atI ixN
  rw [if_pos h0, if_pos h1]
  exact List.getElem?_eq_getElem hl
/-- a thing that keeps its items while all but s stays -/
def Still (s : Nat) (mem : Mem) (w : W) (xs : List W) : Prop := ∀ m, Kp s mem m → itemsOf m w = some xs
theorem Still.tup {s : Nat} {mem : Mem} {xs : List W} : Still s mem (.tup xs) xs := fun _ _ => rfl
theorem Still.loc {s i : Nat} {mem : Mem} {xs : List W} (n : i ≠ s) (h : listAt mem i = some xs) : Still s mem (.loc i) xs := fun m k => k.list n h
theorem Still.now {s : Nat} {mem : Mem} {w : W} {xs : List W} (h : Still s mem w xs) : itemsOf mem w = some xs := h mem Kp.refl
def F_pick : Fn := runB 3 (b__law_pick F_take)
theorem pick_post {row : List Int} {r s : Nat} {mem : Mem} {w : W} {xs : List W} {Q : W → Mem → Prop} {ex : Exc → Mem → Prop} (d : Dr r s row mem) (hx : Still s mem w xs) (hne : 0 < xs.length)
    (h : ∀ (k : Nat) (x : W) (m : Mem), xs[k]? = some x → Dr r s row m → Kp s mem m → m.length = mem.length → Q x m) : (F_pick [.loc r, .loc s, w] mem).Post Q ex := by
  unfold F_pick
  unfold b__law_pick
  walk_at "sh"
  rw [lenV_items hx.now, wp_lift]
  refine take_post d (by omega) fun v m v0 v1 d' k l => ?_
  rw [ixV_items (hx m k)]
  obtain ⟨x, e1, e2⟩ := atI_at v0 v1
  rw [e2]
  exact h _ x m e1 d' k l

/-! ### shuffles -/
def F_shuffled : Fn := runB 6 (b__law_shuffled F_take)
theorem rgW_eq (n : Nat) : rgW (n : Int) = ((List.range n).map fun i => ((i : Nat) : Int)).map W.int := by
  unfold rgW
  rw [List.map_map]
  rfl
theorem eraseIdx_perm {α : Type} : ∀ {l : List α} {k : Nat} {x : α}, l[k]? = some x → (x :: l.eraseIdx k).Perm l
  | [], _, _, h => by simp at h
  | a :: l, 0, x, h => by
    have e : a = x := by simpa using h
    subst e
    exact List.Perm.refl _
  | a :: l, k + 1, x, h => by
    have ih := eraseIdx_perm (l := l) (k := k) (x := x) (by simpa using h)
    show (x :: a :: l.eraseIdx k).Perm (a :: l)
    exact (List.Perm.swap a x _).trans (ih.cons a)
theorem map_eraseIdx {α β : Type} {f : α → β} : ∀ {l : List α} {k : Nat}, (l.map f).eraseIdx k = (l.eraseIdx k).map f
  | [], _ => rfl
  | a :: l, 0 => rfl
  | a :: l, k + 1 => by
    show f a :: (l.map f).eraseIdx k = f a :: (l.eraseIdx k).map f
    rw [map_eraseIdx]
theorem ixN_at {n : Nat} {i : Int} (h0 : 0 ≤ i) (h1 : i < n) : ixN n i = some i.toNat := by
  unfold ixN
  rw [if_pos h0, if_pos h1]
/-- a fresh list of the numbers below many, in some sequence -/
theorem shuffled_post {row : List Int} {r s many : Nat} {mem : Mem} {Q : W → Mem → Prop} {ex : Exc → Mem → Prop} (d : Dr r s row mem) (hm : many ≤ 1000)
    (h : ∀ (i : Nat) (p : List Int) (m : Mem), p.Perm ((List.range many).map fun i => ((i : Nat) : Int)) → mem.length ≤ i → listAt m i = some (p.map W.int) → Dr r s row m → Kp s mem m → Q (.loc i) m) : (F_shuffled [.loc r, .loc s, .int many] mem).Post Q ex := by
  have hs : s < mem.length := by obtain ⟨n, _, e⟩ := d.spot; exact listAt_lt e
  have hr : r < mem.length := listAt_lt d.hrow
  have hsz : sizeLine = 16777216 := sizeLine_eq
  unfold F_shuffled b__law_shuffled
  walk_at "sh"
  refine ⟨⟨by omega, by omega⟩, Nat.zero_le _, ⟨by omega, by omega⟩, ?_⟩
  rw [show ((many : Nat) : Int).toNat = many from Int.toNat_natCast many]
  refine ws_range many (fun k env m => ∃ (x : Option W) (left made : List Int), env = [some (.loc r), some (.loc s), some (.int many), some (.loc mem.length), some (.loc (mem.length + 1)), x] ∧
    listAt m mem.length = some (left.map W.int) ∧ listAt m (mem.length + 1) = some (made.map W.int) ∧ (made ++ left).Perm ((List.range many).map fun i => ((i : Nat) : Int)) ∧ made.length = k ∧ Dr r s row m ∧ Kp s mem m) ?_ ?_ ?_
  · refine ⟨none, _, [], by rw [List.length_append, List.length_singleton], ?_, ?_, List.Perm.refl _, rfl, d.app.app, Kp.app.trans Kp.app⟩
    · rw [← rgW_eq]
      exact listAt_app listAt_new
    · have := listAt_new (mem := mem ++ [.lst (rgW (many : Int))]) (xs := [])
      rw [List.length_append, List.length_singleton] at this
      exact this
  · rintro k env m hk ⟨x, left, made, rfl, hl, hd, hp, hlen, d', kp⟩
    have hleft : left.length = many - k := by
      have := hp.length_eq
      rw [List.length_append, List.length_map, List.length_range] at this
      omega
    walk_at "sh"
    refine ⟨chk_loc hd, chk_loc hl, ?_⟩
    rw [lenV_items (Still.loc (s := s) (mem := m) (by omega) hl).now, wp_lift]
    refine take_post d' (by rw [List.length_map]; omega) fun v m2 v0 v1 d2 k2 l2 => ?_
    rw [List.length_map] at v1
    have hl2 := k2.list (by omega) hl
    have hd2 := k2.list (by omega) hd
    have hv : v.toNat < left.length := by omega
    have ge : left[v.toNat]? = some left[v.toNat] := List.getElem?_eq_getElem hv
    have e1 : popV (.loc mem.length) [.int v] m2 = some (.int left[v.toNat], m2.set mem.length (.lst ((left.eraseIdx v.toNat).map W.int))) := by
      unfold popV
      dsimp only
      rw [hl2]
      dsimp only [Option.bind]
      rw [List.length_map, if_pos (by omega), ixN_at v0 v1]
      dsimp only
      rw [List.getElem?_map, ge, map_eraseIdx]
      rfl
    rw [e1, wp_lift]
    have hd3 : listAt (m2.set mem.length (.lst ((left.eraseIdx v.toNat).map W.int))) (mem.length + 1) = some (made.map W.int) := by rw [listAt_set_ne (by omega)]; exact hd2
    have hml : made.length ≤ 1000 := by omega
    have e2 : appendV (.loc (mem.length + 1)) [.int left[v.toNat]] (m2.set mem.length (.lst ((left.eraseIdx v.toNat).map W.int))) = some (.non, (m2.set mem.length (.lst ((left.eraseIdx v.toNat).map W.int))).set (mem.length + 1) (.lst ((made ++ [left[v.toNat]]).map W.int))) := by
      unfold appendV
      dsimp only
      rw [hd3]
      dsimp only [Option.bind]
      rw [List.length_map, if_pos (by omega), List.map_append]
      rfl
    rw [e2, wp_lift]
    refine ⟨_, left.eraseIdx v.toNat, made ++ [left[v.toNat]], rfl, ?_, ?_, ?_, by rw [List.length_append, List.length_singleton, hlen], ?_, ?_⟩
    · rw [listAt_set_ne (by omega)]
      exact listAt_set hl2
    · exact listAt_set hd3
    · refine List.Perm.trans ?_ hp
      rw [List.append_assoc]
      exact List.Perm.append_left made (eraseIdx_perm ge)
    · exact (d2.set (by omega) (by omega)).set (by omega) (by omega)
    · intro i c hn hc
      have hi := (List.getElem?_eq_some_iff.mp hc).1
      rw [List.getElem?_set_ne (by omega), List.getElem?_set_ne (by omega)]
      exact k2 i c hn (kp i c hn hc)
  · rintro env m ⟨x, left, made, rfl, hl, hd, hp, hlen, d', kp⟩
    walk_at "sh"
    have hleft : left = [] := by
      have := hp.length_eq
      rw [List.length_append, List.length_map, List.length_range] at this
      exact List.eq_nil_of_length_eq_zero (by omega)
    subst hleft
    rw [List.append_nil] at hp
    exact h _ made m hp (by omega) hd d' kp
end Sh
set_option linter.all false
set_option maxRecDepth 100000
set_option
        maxHeartbeats 400000
namespace Sh
open PySem PySem.Spec
        PyProof.Rows L2
theorem stp1 {s t : SS} {env e : VEnv} {mem m : Mem} {q : SQ} (h : s env mem = .nx e m) (k : (t e m).Post q) : (seqS s t env mem).Post q := by
  rw [ws_seq, h]
  exact k
theorem stp2 {s t : SS} {env : VEnv} {mem : Mem} {q : SQ} (k : ∃ e m, s env mem = .nx e m ∧ (t e m).Post q) : (seqS s t env mem).Post q := by
  obtain ⟨e, m, h, k⟩ := k
  rw [ws_seq, h]
  exact k
structure Rl where
  s : Int
  w : Str
  t : Int
  a : Str
  deriving DecidableEq
def Rl.enc (r : Rl) : W := .tup [.int r.s, .str r.w, .int r.t, .str r.a]
structure Sd where
  n : Int
  b : Int
  rs : List Rl
  deriving DecidableEq
def Sd.enc (x : Sd) : W := .tup [.int x.n, .int x.b, .tup (x.rs.map Rl.enc)]
def bHost : Sd := ⟨4, 0, [⟨0, "tick", 1, "take"⟩, ⟨1, "tick", 1, "send 0"⟩, ⟨1, "got 0", 2, "none"⟩, ⟨2, "tick", 3, "take"⟩, ⟨3, "tick", 3, "send 1"⟩, ⟨3, "got 1", 0, "none"⟩]⟩
def bDev : Sd := ⟨4, 0, [⟨0, "got 0", 1, "tell"⟩, ⟨0, "got 1", 3, "none"⟩, ⟨1, "tick", 2, "send 0"⟩, ⟨2, "got 1", 3, "tell"⟩, ⟨2, "got 0", 1, "none"⟩, ⟨3, "tick", 0, "send 1"⟩]⟩
def bMore : List Rl := [⟨1, "got 1", 1, "none"⟩, ⟨3, "got 0", 3, "none"⟩, ⟨2, "got 0", 2, "none"⟩, ⟨0, "got 1", 0, "none"⟩]
def bSimple : Sd := ⟨2, 0, [⟨0, "tick", 1, "take"⟩, ⟨1, "got 0", 0, "none"⟩, ⟨1, "tick", 1, "send 0"⟩]⟩
def bPlain : Sd := ⟨2, 0, [⟨0, "got 0", 1, "tell"⟩, ⟨1, "tick", 0, "send 0"⟩]⟩
def bCounter : Sd := ⟨5, 0, [⟨0, "tick", 0, "send 0"⟩, ⟨4, "tick", 4, "take"⟩, ⟨0, "got 0", 0, "send 0"⟩, ⟨0, "got 1", 1, "send 0"⟩, ⟨1, "got 0", 1, "send 0"⟩, ⟨1, "got 1", 2, "send 0"⟩, ⟨2, "got 0", 2, "send 0"⟩, ⟨2, "got 1", 3, "send 0"⟩, ⟨3, "got 0", 3, "send 0"⟩, ⟨3, "got 1", 4, "send 0"⟩]⟩
def bWheel : Sd := ⟨5, 0, [⟨4, "got 0", 0, "send 1"⟩, ⟨0, "got 0", 1, "send 0"⟩, ⟨1, "got 0", 2, "send 0"⟩, ⟨2, "got 0", 3, "send 0"⟩, ⟨3, "got 0", 4, "send 0"⟩]⟩
def bLate : Sd := ⟨5, 4, bHost.rs ++ [⟨4, "tick", 0, "none"⟩, ⟨4, "pull", 0, "none"⟩]⟩
def bPulled : Sd := ⟨5, 4, bHost.rs ++ [⟨4, "got 1", 0, "none"⟩, ⟨4, "pull", 0, "none"⟩]⟩
def bShort : Sd := ⟨2, 0, [⟨0, "got 0", 1, "tell"⟩, ⟨0, "tick", 0, "send 1"⟩, ⟨1, "got 1", 0, "tell"⟩, ⟨1, "tick", 1, "send 0"⟩]⟩
def bBareH : Sd := ⟨1, 0, [⟨0, "tick", 0, "take"⟩]⟩
def bBareD : Sd := ⟨1, 0, [⟨0, "tick", 0, "tell"⟩]⟩
def enc2 (p : Sd × Sd) : W := .tup [p.1.enc, p.2.enc]
def bMored : Sd := ⟨4, 0, bHost.rs ++ bMore⟩
def bases : List (Sd × Sd) := [(bHost, bDev), (bMored, bDev), (bSimple, bPlain), (bCounter, bWheel), (bLate, bDev), (bPulled, bShort), (bBareH, bBareD)]
/-- [x for x in w] -/
theorem lc_copy {me : EM} {env : VEnv} {mem : Mem} {w : W} {xs : List W} {i : Nat} (h : me env mem = .ok w mem) (hs : ∀ r : Mem, itemsOf (mem ++ r) w = some xs) (hi : i < env.length) (hl : xs.length ≤ 1000) :
    lcE (seqI me) (nameG i) yesB (varE i) [i] env mem = .ok (.loc mem.length) (mem ++ [.lst xs]) := by
  have h0 : itemsOf mem w = some xs := by have := hs []; rwa [List.append_nil] at this
  obtain ⟨wk, hw, hk, hn⟩ : ∃ wk, walkOf w mem = some wk ∧ wk.k = xs.length ∧ ∀ r : Mem, ∀ k, wk.nx k (mem ++ r) = some xs[k]? := by
    cases w with
    | tup ys => cases h0; exact ⟨_, rfl, rfl, fun _ _ => rfl⟩
    | rol ys => cases h0; exact ⟨_, rfl, rfl, fun _ _ => rfl⟩
    | loc n =>
      have h1 : listAt mem n = some xs := h0
      refine ⟨⟨locN n, xs.length⟩, by unfold walkOf; dsimp only; rw [h1]; rfl, rfl, fun r k => ?_⟩
      have h2 : listAt (mem ++ r) n = some xs := hs r
      unfold locN
      dsimp only
      rw [h2]
      rfl
    | _ => cases h0
  obtain ⟨m, e, q⟩ := lc_loop (nx := wk.nx) (g := nameG i) (t := yesB) (e := varE i) (vs := [i]) (D := mem.length) (env := env) (Q := fun m => m = mem ++ [.lst xs]) xs (fun k m => m = mem ++ [.lst (xs.take k)]) (fun k m _ e => by rw [e]; exact hn _ k) (mem := mem ++ [.lst []]) (by rw [List.take_zero])
    (fun k x m hx e => by
      subst e
      have hk : k < xs.length := (List.getElem?_eq_some_iff.mp hx).1
      simp only [wg_name, yesB, wp_pure, if_true, wp_var]
      rw [List.getElem?_set_self (by unfold wipeE wipeE; rw [List.length_set]; exact hi)]
      dsimp only
      refine ⟨xs.take k, listAt_new, by have := sizeLine_eq; rw [List.length_take]; omega, ?_⟩
      rw [List.set_append_right _ _ (Nat.le_refl _), Nat.sub_self, List.take_add_one, hx]
      rfl)
    (fun m e => by rw [e, List.take_length])
  unfold lcE seqI SM.bind
  rw [h]
  dsimp only
  rw [hw]
  dsimp only
  rw [hk, e, q]
def F_bases : Fn := runB 15 b__law_bases
theorem listAt_new1 {m : Mem} {xs ys : List W} : listAt (m ++ [.lst xs] ++ [.lst ys]) m.length = some xs := listAt_app listAt_new
theorem listAt_new2 {m : Mem} {xs ys : List W} : listAt (m ++ [.lst xs] ++ [.lst ys]) (m.length + 1) = some ys := by
  have := listAt_new (mem := m ++ [.lst xs]) (xs := ys)
  rwa [List.length_append, List.length_singleton] at this
theorem addV_loc {m : Mem} {a b : Nat} {xs ys : List W} (h1 : listAt m a = some xs) (h2 : listAt m b = some ys) (hl : xs.length + ys.length ≤ 1000) : addV (.loc a) (.loc b) m = some (.loc m.length, m ++ [.lst (xs ++ ys)]) := by
  unfold addV
  dsimp only
  rw [h1, h2]
  dsimp only
  rw [if_pos (Nat.le_trans hl (by decide))]
theorem bases_post {mem : Mem} {Q : W → Mem → Prop} {ex : Exc → Mem → Prop} (h : ∀ (i : Nat) (r : Mem), mem.length ≤ i → listAt (mem ++ r) i = some (bases.map enc2) → Q (.loc i) (mem ++ r)) : (F_bases [] mem).Post Q ex := by
  refine Eq.mpr wr_run ?_
  delta b__law_bases
  apply stp2
  refine ⟨[some (.tup ((bHost.rs.take 3).map Rl.enc)), none, none, none, none, none, none, none, none, none, none, none, none, none, none], mem, by rfl, ?_⟩
  apply stp2
  refine ⟨[some (.tup ((bHost.rs.take 3).map Rl.enc)), some bHost.enc, none, none, none, none, none, none, none, none, none, none, none, none, none], mem, by rfl, ?_⟩
  apply stp2
  refine ⟨[some (.tup ((bDev.rs.take 3).map Rl.enc)), some bHost.enc, none, none, none, none, none, none, none, none, none, none, none, none, none], mem, by rfl, ?_⟩
  apply stp2
  refine ⟨[some (.tup ((bDev.rs.take 3).map Rl.enc)), some bHost.enc, some bDev.enc, none, none, none, none, none, none, none, none, none, none, none, none], mem, by rfl, ?_⟩
  apply stp2
  refine ⟨[some (.tup ((bDev.rs.take 3).map Rl.enc)), some bHost.enc, some bDev.enc, some (.tup (bMore.map Rl.enc)), none, none, none, none, none, none, none, none, none, none, none], mem, by rfl, ?_⟩
  apply stp2
  refine ⟨[some (.tup ((bDev.rs.take 3).map Rl.enc)), some bHost.enc, some bDev.enc, some (.tup (bMore.map Rl.enc)), some bSimple.enc, none, none, none, none, none, none, none, none, none, none], mem, by rfl, ?_⟩
  apply stp2
  refine ⟨[some (.tup ((bDev.rs.take 3).map Rl.enc)), some bHost.enc, some bDev.enc, some (.tup (bMore.map Rl.enc)), some bSimple.enc, some bPlain.enc, none, none, none, none, none, none, none, none, none], mem, by rfl, ?_⟩
  apply stp2
  refine ⟨[some (.tup ((bCounter.rs.take 2).map Rl.enc)), some bHost.enc, some bDev.enc, some (.tup (bMore.map Rl.enc)), some bSimple.enc, some bPlain.enc, none, none, none, none, none, none, none, none, none], mem, by rfl, ?_⟩
  apply stp2
  refine ⟨[some (.tup (bCounter.rs.map Rl.enc)), some bHost.enc, some bDev.enc, some (.tup (bMore.map Rl.enc)), some bSimple.enc, some bPlain.enc, some (.int 3), none, none, none, none, none, none, none, none], mem, by rfl, ?_⟩
  apply stp2
  refine ⟨[some (.tup (bCounter.rs.map Rl.enc)), some bHost.enc, some bDev.enc, some (.tup (bMore.map Rl.enc)), some bSimple.enc, some bPlain.enc, some (.int 3), some bCounter.enc, none, none, none, none, none, none, none], mem, by rfl, ?_⟩
  apply stp2
  refine ⟨[some (.tup ((bWheel.rs.take 1).map Rl.enc)), some bHost.enc, some bDev.enc, some (.tup (bMore.map Rl.enc)), some bSimple.enc, some bPlain.enc, some (.int 3), some bCounter.enc, none, none, none, none, none, none, none], mem, by rfl, ?_⟩
  apply stp2
  refine ⟨[some (.tup (bWheel.rs.map Rl.enc)), some bHost.enc, some bDev.enc, some (.tup (bMore.map Rl.enc)), some bSimple.enc, some bPlain.enc, some (.int 3), some bCounter.enc, none, none, none, none, none, none, none], mem, by rfl, ?_⟩
  apply stp2
  refine ⟨[some (.tup (bWheel.rs.map Rl.enc)), some bHost.enc, some bDev.enc, some (.tup (bMore.map Rl.enc)), some bSimple.enc, some bPlain.enc, some (.int 3), some bCounter.enc, some bWheel.enc, none, none, none, none, none, none], mem, by rfl, ?_⟩
  apply stp2
  refine ⟨[some (.tup (bWheel.rs.map Rl.enc)), some bHost.enc, some bDev.enc, some (.tup (bMore.map Rl.enc)), some bSimple.enc, some bPlain.enc, some (.int 3), some bCounter.enc, some bWheel.enc, some bLate.enc, none, none, none, none, none], mem ++ [.lst (bHost.rs.map Rl.enc)], ?_, ?_⟩
  · have hc := lc_copy (me := bin ixV (varE 1) (cE (W.int 2))) (env := [some (.tup (bWheel.rs.map Rl.enc)), some bHost.enc, some bDev.enc, some (.tup (bMore.map Rl.enc)), some bSimple.enc, some bPlain.enc, some (.int 3), some bCounter.enc, some bWheel.enc, none, none, none, none, none, none]) (mem := mem) (w := .tup (bHost.rs.map Rl.enc)) (xs := bHost.rs.map Rl.enc) (i := 10) (by rfl) (fun _ => rfl) (by decide) (by decide)
    have hl : listAt (mem ++ [.lst (bHost.rs.map Rl.enc)]) mem.length = some (bHost.rs.map Rl.enc) := listAt_new
    simp only [setS, ofE, tupE, SM.bind, consA, bin, callN, nilA, SM.pure, cE, hc, tupleV, itemsOf, hl, Option.map_some, lift]
    rfl
  apply stp2
  refine ⟨[some (.tup (bWheel.rs.map Rl.enc)), some bHost.enc, some bDev.enc, some (.tup (bMore.map Rl.enc)), some bSimple.enc, some bPlain.enc, some (.int 3), some bCounter.enc, some bWheel.enc, some bLate.enc, none, some bPulled.enc, none, none, none], mem ++ [.lst (bHost.rs.map Rl.enc)], by rfl, ?_⟩
  apply stp2
  refine ⟨[some (.tup (bWheel.rs.map Rl.enc)), some bHost.enc, some bDev.enc, some (.tup (bMore.map Rl.enc)), some bSimple.enc, some bPlain.enc, some (.int 3), some bCounter.enc, some bWheel.enc, some bLate.enc, none, some bPulled.enc, some bShort.enc, none, none], mem ++ [.lst (bHost.rs.map Rl.enc)], by rfl, ?_⟩
  apply stp2
  refine ⟨[some (.tup (bWheel.rs.map Rl.enc)), some bHost.enc, some bDev.enc, some (.tup (bMore.map Rl.enc)), some bSimple.enc, some bPlain.enc, some (.int 3), some bCounter.enc, some bWheel.enc, some bLate.enc, none, some bPulled.enc, some bShort.enc, some (enc2 (bBareH, bBareD)), none], mem ++ [.lst (bHost.rs.map Rl.enc)], by rfl, ?_⟩
  generalize hm : mem ++ [Cell.lst (bHost.rs.map Rl.enc)] = m1
  apply stp2
  refine ⟨[some (.tup (bWheel.rs.map Rl.enc)), some bHost.enc, some bDev.enc, some (.tup (bMore.map Rl.enc)), some bSimple.enc, some bPlain.enc, some (.int 3), some bCounter.enc, some bWheel.enc, some bLate.enc, none, some bPulled.enc, some bShort.enc, some (enc2 (bBareH, bBareD)), some (.loc m1.length)], m1 ++ [.lst ((bases.take 4).map enc2)], by rfl, ?_⟩
  have hb : lstE (consA (tupE (consA (varE 9) (consA (varE 2) nilA))) (consA (tupE (consA (varE 11) (consA (varE 12) nilA))) (consA (varE 13) nilA))) [some (.tup (bWheel.rs.map Rl.enc)), some bHost.enc, some bDev.enc, some (.tup (bMore.map Rl.enc)), some bSimple.enc, some bPlain.enc, some (.int 3), some bCounter.enc, some bWheel.enc, some bLate.enc, none, some bPulled.enc, some bShort.enc, some (enc2 (bBareH, bBareD)), some (.loc m1.length)] (m1 ++ [Cell.lst ((bases.take 4).map enc2)]) = .ok (.loc (m1 ++ [Cell.lst ((bases.take 4).map enc2)]).length) (m1 ++ [Cell.lst ((bases.take 4).map enc2)] ++ [Cell.lst ((bases.drop 4).map enc2)]) := by rfl
  have ha : addV (.loc m1.length) (.loc (m1 ++ [Cell.lst ((bases.take 4).map enc2)]).length) (m1 ++ [Cell.lst ((bases.take 4).map enc2)] ++ [Cell.lst ((bases.drop 4).map enc2)]) = some (.loc (m1 ++ [Cell.lst ((bases.take 4).map enc2)] ++ [Cell.lst ((bases.drop 4).map enc2)]).length, m1 ++ [Cell.lst ((bases.take 4).map enc2)] ++ [Cell.lst ((bases.drop 4).map enc2)] ++ [Cell.lst ((bases.take 4).map enc2 ++ (bases.drop 4).map enc2)]) :=
    addV_loc listAt_new1 listAt_new (by decide)
  refine Eq.mpr ws_ret (Eq.mpr wp_bin (Eq.mpr wp_var ?_))
  show Res.Post (lstE _ _ (m1 ++ [Cell.lst ((bases.take 4).map enc2)])) _ _
  rw [hb]
  show Res.Post (lift (addV (.loc m1.length) _ _)) _ _
  rw [ha, wp_lift, ← List.map_append, List.take_append_drop]
  subst hm
  have e : mem ++ [Cell.lst (bHost.rs.map Rl.enc)] ++ [Cell.lst ((bases.take 4).map enc2)] ++ [Cell.lst ((bases.drop 4).map enc2)] ++ [Cell.lst (bases.map enc2)] = mem ++ ([Cell.lst (bHost.rs.map Rl.enc)] ++ [Cell.lst ((bases.take 4).map enc2)] ++ [Cell.lst ((bases.drop 4).map enc2)] ++ [Cell.lst (bases.map enc2)]) := by simp only [List.append_assoc]
  have hl := listAt_new (mem := mem ++ [Cell.lst (bHost.rs.map Rl.enc)] ++ [Cell.lst ((bases.take 4).map enc2)] ++ [Cell.lst ((bases.drop 4).map enc2)]) (xs := bases.map enc2)
  rw [e] at hl ⊢
  exact h _ _ (by simp only [List.length_append]; omega) hl
end Sh
set_option linter.all false
set_option maxRecDepth 100000
set_option
        maxHeartbeats 4000000
/-! MD: rules: their data, drawn ones, fitting ones. -/
namespace Sh
open PySem PySem.Spec
        PyProof.Rows L2
local macro_rules | `(tactic| walk_at "sh") => `(tactic| simp only [wr_run, ws_seq, ws_ret, ws_retN, ws_next, ws_brk, ws_ct, ws_drop, ws_set, ws_if, ws_asg, ws_par, ws_aug, ws_for, wp_ok, wp_bad, wp_pure, wp_bind, wp_lift, wp_lift0, wp_var, wp_c, wp_bin, wp_un, wp_callN, wp_callF, wp_nil, wp_cons, wp_tup, wp_lst, wp_andV, wp_orV, wp_notV, wp_ifE, wp_tB, wp_andB, wp_orB, wp_notB, wp_chain, wp_optN, wp_optS, wp_slice, wp_meth, wp_lr, wp_lc, wp_seqI, wp_rng1, wg_name, wg_nil, wg_cons, wg_seq, wg_sub, startE, List.map_cons, List.map_nil, List.length_cons, List.length_nil, List.getElem?_cons_zero, List.getElem?_cons_succ, List.cons_append, List.nil_append, List.set_cons_zero, List.set_cons_succ, List.replicate_succ, List.replicate_zero, Nat.reduceSub, Nat.reduceAdd, isB, if_true, if_false, Bool.false_eq_true, Bool.not_true, Bool.not_false, reduceIte, yesB])

def WH : List Str := ["tick", "pull", "got 0", "got 1", "got 2", "got 3"]
def AC (host : Bool) : List Str := ["none", "send 0", "send 1", "send 2", "send 3", if host then "take" else "tell"]
def sOk (z : Str) : Bool := SeqAt.shaped (.str z)
theorem wh_ok : ∀ z ∈ WH, sOk z = true := by decide +kernel
theorem ac_ok : ∀ host, ∀ z ∈ AC host, sOk z = true := by decide +kernel
/-! ### equal scalars -/
theorem eqv_str {a b : Str} : PyData.eqv (.str a) (.str b) = (a == b) := by simp only [PyData.eqv]
theorem eqv_int {a b : Int} : PyData.eqv (.int a) (.int b) = (a == b) := by simp only [PyData.eqv]
theorem sh_int (i : Int) : SeqAt.shaped (.int i) = true := by
  show (PyData.canLay0 (.int i) && decide (PyData.depth (.int i) ≤ 64)) = true
  simp [PyData.canLay0, PyData.depth]
theorem eqV_str {a b : Str} {m : Mem} (ha : sOk a = true) (hb : sOk b = true) : eqV (.str a) (.str b) m = some (.bl (a == b), m) := by
  have ha' : SeqAt.shaped (.str a) = true := ha
  have hb' : SeqAt.shaped (.str b) = true := hb
  unfold eqV eqvM
  show Option.map (fun b => (W.bl b, m)) (if (SeqAt.shaped (.str a) && SeqAt.shaped (.str b)) = true then some (PyData.eqv (.str a) (.str b)) else none) = _
  rw [ha', hb', eqv_str]
  rfl
theorem eqV_int {a b : Int} {m : Mem} : eqV (.int a) (.int b) m = some (.bl (a == b), m) := by
  unfold eqV eqvM
  show Option.map (fun b => (W.bl b, m)) (if (SeqAt.shaped (.int a) && SeqAt.shaped (.int b)) = true then some (PyData.eqv (.int a) (.int b)) else none) = _
  rw [sh_int, sh_int, eqv_int]
  rfl
/-! ### rules as data -/
def Rl.dat (r : Rl) : PyData := .tuple [.int r.s, .str r.w, .int r.t, .str r.a]
def Rl.sOk (r : Rl) : Bool := Sh.sOk r.w && Sh.sOk r.a
theorem enc_dat (r : Rl) (m : Mem) (n : Nat) : toN m (n + 2) r.enc = some r.dat := rfl
theorem dat_eqv (r q : Rl) : PyData.eqv r.dat q.dat = decide (r = q) := by
  obtain ⟨a, b, c, d⟩ := r
  obtain ⟨a', b', c', d'⟩ := q
  have e : PyData.eqv (Rl.dat ⟨a, b, c, d⟩) (Rl.dat ⟨a', b', c', d'⟩) = ((a == a') && ((b == b') && ((c == c') && ((d == d') && true)))) := by simp only [Rl.dat, PyData.eqv, PyData.eqvAll]
  rw [e, Bool.eq_iff_iff]
  simp
theorem sok_lay {z : Str} (h : sOk z = true) : PyData.canLay0 (.str z) = true := SeqAt.canLay_of_shaped h
theorem dat_lay {r : Rl} (h : r.sOk = true) : PyData.canLay0 r.dat = true := by
  have h1 := Bool.and_eq_true_iff.mp h
  simp only [Rl.dat, PyData.canLay0, PyData.canLayAll0, Bool.and_eq_true]
  have e1 := sok_lay h1.1
  have e2 := sok_lay h1.2
  simp only [PyData.canLay0] at e1 e2
  simp [e1, e2]
theorem dat_depth (r : Rl) : PyData.depth r.dat = 1 := by simp [Rl.dat, PyData.depth, PyData.depthAll]
theorem dat_shaped {r : Rl} (h : r.sOk = true) : SeqAt.shaped r.dat = true := by
  show (PyData.canLay0 r.dat && decide (PyData.depth r.dat ≤ 64)) = true
  rw [dat_lay h, dat_depth]
  rfl
theorem encs_dat {m : Mem} {n : Nat} : ∀ rs : List Rl, (rs.map Rl.enc).mapM (toN m (n + 2)) = some (rs.map Rl.dat)
  | [] => rfl
  | r :: rs => by
    rw [List.map_cons, List.mapM_cons, enc_dat, encs_dat rs]
    rfl
theorem dats_shaped : ∀ {rs : List Rl}, (∀ r ∈ rs, r.sOk = true) → PyData.canLayAll0 (rs.map Rl.dat) = true ∧ PyData.depthAll (rs.map Rl.dat) ≤ 1
  | [], _ => by simp [PyData.canLayAll0, PyData.depthAll]
  | r :: rs, h => by
    have ih := dats_shaped (rs := rs) fun x hx => h x (List.mem_cons_of_mem _ hx)
    have h1 := dat_lay (h r List.mem_cons_self)
    have h2 := dat_depth r
    simp only [List.map_cons, PyData.canLayAll0, PyData.depthAll, h1, ih.1, h2, Bool.and_self, true_and]
    omega
theorem shaped_list {ds : List PyData} (h : PyData.canLayAll0 ds = true) (hd : PyData.depthAll ds ≤ 60) : SeqAt.shaped (.list ds) = true := by
  show (PyData.canLay0 (.list ds) && decide (PyData.depth (.list ds) ≤ 64)) = true
  rw [Bool.and_eq_true]
  exact ⟨by simp only [PyData.canLay0]; exact h, decide_eq_true (by simp only [PyData.depth]; omega)⟩
theorem any_dat (r : Rl) : ∀ rs : List Rl, ((rs.map Rl.dat).any fun z => PyData.eqv z r.dat) = decide (r ∈ rs)
  | [] => (decide_eq_false (fun h => by cases h)).symm
  | q :: rs => by
    rw [List.map_cons, List.any_cons, any_dat r rs, dat_eqv]
    by_cases h : q = r
    · rw [decide_eq_true h, decide_eq_true (show r ∈ q :: rs from h ▸ List.mem_cons_self)]
      rfl
    · rw [decide_eq_false h, Bool.false_or]
      by_cases h2 : r ∈ rs
      · rw [decide_eq_true h2, decide_eq_true (List.mem_cons_of_mem _ h2)]
      · rw [decide_eq_false h2, decide_eq_false (fun z => (List.mem_cons.mp z).elim (fun e => h e.symm) h2)]
/-- a rule among a list of rules -/
theorem in_rules {m : Mem} {i : Nat} {r : Rl} {rs : List Rl} (h : listAt m i = some (rs.map Rl.enc)) (hr : r.sOk = true) (hs : ∀ x ∈ rs, x.sOk = true) : inD m r.enc (.loc i) = some (decide (r ∈ rs)) := by
  have e1 : toM m r.enc = some r.dat := enc_dat r m 63
  have e2 : toM m (.loc i) = some (.list (rs.map Rl.dat)) := by
    show (listAt m i).bind (fun xs => (xs.mapM (toN m 64)).map PyData.list) = _
    rw [h]
    show ((rs.map Rl.enc).mapM (toN m (62 + 2))).map PyData.list = _
    rw [encs_dat]
    rfl
  have s2 := dats_shaped hs
  unfold inD
  rw [e1, e2]
  show (if (SeqAt.shaped r.dat && SeqAt.shaped (.list (rs.map Rl.dat))) = true then some ((rs.map Rl.dat).any fun z => PyData.eqv z r.dat) else none) = _
  rw [dat_shaped hr, shaped_list s2.1 (by omega), any_dat]
  rfl
/-! ### ints among ints -/
theorem ints_dat {m : Mem} {n : Nat} : ∀ is : List Int, (is.map W.int).mapM (toN m (n + 1)) = some (is.map PyData.int)
  | [] => rfl
  | i :: is => by
    rw [List.map_cons, List.mapM_cons, ints_dat is]
    rfl
theorem ints_shaped : ∀ is : List Int, PyData.canLayAll0 (is.map PyData.int) = true ∧ PyData.depthAll (is.map PyData.int) = 0
  | [] => by simp [PyData.canLayAll0, PyData.depthAll]
  | i :: is => by
    have ih := ints_shaped is
    simp [PyData.canLayAll0, PyData.depthAll, PyData.canLay0, PyData.depth, ih.1, ih.2]
theorem any_int (i : Int) : ∀ is : List Int, ((is.map PyData.int).any fun z => PyData.eqv z (.int i)) = decide (i ∈ is)
  | [] => (decide_eq_false (fun h => by cases h)).symm
  | j :: is => by
    rw [List.map_cons, List.any_cons, any_int i is, eqv_int]
    by_cases h : j = i
    · rw [beq_iff_eq.mpr h, decide_eq_true (show i ∈ j :: is from h ▸ List.mem_cons_self)]
      rfl
    · rw [beq_eq_false_iff_ne.mpr h, Bool.false_or]
      by_cases h2 : i ∈ is
      · rw [decide_eq_true h2, decide_eq_true (List.mem_cons_of_mem _ h2)]
      · rw [decide_eq_false h2, decide_eq_false (fun z => (List.mem_cons.mp z).elim (fun e => h e.symm) h2)]
theorem in_ints {m : Mem} {k : Nat} {i : Int} {is : List Int} (h : listAt m k = some (is.map W.int)) : inD m (.int i) (.loc k) = some (decide (i ∈ is)) := by
  have e2 : toM m (.loc k) = some (.list (is.map PyData.int)) := by
    show (listAt m k).bind (fun xs => (xs.mapM (toN m 64)).map PyData.list) = _
    rw [h]
    show ((is.map W.int).mapM (toN m (63 + 1))).map PyData.list = _
    rw [ints_dat]
    rfl
  have s2 := ints_shaped is
  unfold inD
  rw [e2]
  show (if (SeqAt.shaped (.int i) && SeqAt.shaped (.list (is.map PyData.int))) = true then some ((is.map PyData.int).any fun z => PyData.eqv z (.int i)) else none) = _
  rw [sh_int, shaped_list s2.1 (by omega), any_int]
  rfl
/-! ### rules that a side may have -/
structure RlOk (n : Int) (host : Bool) (r : Rl) : Prop where
  s0 : 0 ≤ r.s
  s1 : r.s < n
  w : r.w ∈ WH
  t0 : 0 ≤ r.t
  t1 : r.t < n
  a : r.a ∈ AC host
  p : r.w = "pull" → r.a = "none"
theorem RlOk.sok {n : Int} {host : Bool} {r : Rl} (h : RlOk n host r) : r.sOk = true := by
  unfold Rl.sOk
  rw [wh_ok _ h.w, ac_ok _ _ h.a]
  rfl
theorem RlOk.mono {n k : Int} {host : Bool} {r : Rl} (h : RlOk n host r) (l : n ≤ k) : RlOk k host r := ⟨h.s0, by have := h.s1; omega, h.w, h.t0, by have := h.t1; omega, h.a, h.p⟩
def F_whens : Fn := runB 0 b__law_whens
theorem whens_eq (m : Mem) : F_whens [] m = .ok (.loc m.length) (m ++ [.lst (WH.map W.str)]) := rfl
def F_acts : Fn := runB 1 b__law_acts
theorem acts_eq (b : Bool) (m : Mem) : F_acts [.bl b] m = .ok (.loc m.length) (m ++ [.lst ((AC b).map W.str)]) := by cases b <;> rfl
def F_drawn_rule : Fn := runB 6 (b__law_drawn_rule F_pick F_whens F_acts F_take)
theorem Kp.app_of {s : Nat} {a b : Mem} {r : Mem} (h : Kp s (a ++ r) b) : Kp s a b := Kp.app.trans h
theorem pick_strs {row : List Int} {r s : Nat} {mem : Mem} {i : Nat} {zs : List Str} {Q : W → Mem → Prop} {ex : Exc → Mem → Prop} (d : Dr r s row mem) (n : i ≠ s) (h : listAt mem i = some (zs.map W.str)) (hz : 0 < zs.length)
    (k : ∀ z m, z ∈ zs → Dr r s row m → Kp s mem m → m.length = mem.length → Q (.str z) m) : (F_pick [.loc r, .loc s, .loc i] mem).Post Q ex :=
  pick_post d (Still.loc n h) (by rw [List.length_map]; exact hz) fun j x m hx d' kp l => by
    rw [List.getElem?_map] at hx
    cases e : zs[j]? with
    | none => rw [e] at hx; cases hx
    | some z =>
      rw [e] at hx
      cases hx
      exact k z m (List.mem_of_getElem? e) d' kp l
theorem Dr.s_lt {r s : Nat} {row : List Int} {mem : Mem} (d : Dr r s row mem) : s < mem.length := by obtain ⟨n, _, e⟩ := d.spot; exact listAt_lt e
theorem drawn_rule_post {row : List Int} {r s : Nat} {mem : Mem} {n : Int} {host : Bool} {Q : W → Mem → Prop} {ex : Exc → Mem → Prop} (d : Dr r s row mem) (hn : 0 < n)
    (h : ∀ (q : Rl) (m : Mem), RlOk n host q → Dr r s row m → Kp s mem m → Q q.enc m) : (F_drawn_rule [.loc r, .loc s, .int n, .bl host] mem).Post Q ex := by
  have hs := d.s_lt
  unfold F_drawn_rule b__law_drawn_rule
  walk_at "sh"
  rw [whens_eq, wp_ok]
  refine pick_strs d.app (by omega) listAt_new (by decide) fun z m1 hz d1 k1 l1 => ?_
  rw [eqV_str (wh_ok z hz) (by decide +kernel), wp_lift]
  walk_at "sh"
  have fin : ∀ (a : Str) (m2 : Mem), a ∈ AC host → (z = "pull" → a = "none") → Dr r s row m2 → Kp s m1 m2 →
      (F_take [.loc r, .loc s, .int n] m2).Post (fun x m => (F_take [.loc r, .loc s, .int n] m).Post (fun x_1 m => 0 + 1 + 1 + 1 + 1 ≤ sizeLine ∧ Q (.tup [x, .str z, x_1, .str a]) m) ex) ex := fun a m2 ha hp d2 k2 => by
    refine take_post d2 hn fun v m3 v0 v1 d3 k3 l3 => ?_
    refine take_post d3 hn fun u m4 u0 u1 d4 k4 l4 => ?_
    exact ⟨by decide, h ⟨v, z, u, a⟩ m4 ⟨v0, v1, hz, u0, u1, ha, hp⟩ d4 ((((Kp.app_of k1).trans k2).trans k3).trans k4)⟩
  by_cases e : z = "pull"
  · subst e
    simp only
            [beq_self_eq_true, if_true]
    exact fin _ m1 (by cases host <;> decide +kernel) (fun _ => rfl) d1 Kp.refl
  · have e' : (z == ("pull" : Str)) = false := by simpa using e
    rw [e']
    simp only [Bool.false_eq_true,
            if_false]
    rw [acts_eq, wp_ok]
    have hs1 := d1.s_lt
    refine pick_strs d1.app (by omega) listAt_new (by cases host <;> decide) fun a m2 ha d2 k2 l2 => ?_
    exact fin a m2 ha (fun z => absurd z e) d2 (Kp.app_of k2)
end Sh
set_option linter.all false
set_option maxRecDepth 100000
set_option
        maxHeartbeats 4000000
/-! ME: rules that fit. -/
namespace Sh
open PySem PySem.Spec
        PyProof.Rows L2
local macro_rules | `(tactic| walk_at "wk") => `(tactic| try simp only [wr_run, ws_seq, ws_ret, ws_retN, ws_next, ws_brk, ws_ct, ws_drop, ws_set, ws_if, ws_asg, ws_par, ws_aug, ws_for, wp_ok, wp_bad, wp_pure, wp_bind, wp_lift, wp_lift0, wp_var, wp_c, wp_bin, wp_un, wp_callN, wp_callF, wp_nil, wp_cons, wp_tup, wp_lst, wp_andV, wp_orV, wp_notV, wp_ifE, wp_tB, wp_andB, wp_orB, wp_notB, wp_chain, wp_optN, wp_optS, wp_slice, wp_meth, wp_lr, wp_lc, wp_seqI, wp_rng1, wg_name, wg_nil, wg_cons, wg_seq, wg_sub, startE, List.map_cons, List.map_nil, List.length_cons, List.length_nil, List.getElem?_cons_zero, List.getElem?_cons_succ, List.cons_append, List.nil_append, List.set_cons_zero, List.set_cons_succ, List.replicate_succ, List.replicate_zero, Nat.reduceSub, Nat.reduceAdd, isB, if_true, if_false, Bool.false_eq_true, Bool.not_true, Bool.not_false, reduceIte, yesB])
/-- nothing that was there changes -/
def Kq (a b : Mem) : Prop := ∀ (i : Nat) (c : Cell), a[i]? = some c → b[i]? = some c
theorem Kq.refl {a : Mem} : Kq a a := fun _ _ h => h
theorem Kq.trans {a b c : Mem} (h : Kq a b) (k : Kq b c) : Kq a c := fun i x e => k i x (h i x e)
theorem Kq.app {a r : Mem} : Kq a (a ++ r) := fun i c e => by
  rw [List.getElem?_append_left (List.getElem?_eq_some_iff.mp e).1]
  exact e
theorem Kq.kp {s : Nat} {a b : Mem} (h : Kq a b) : Kp s a b := fun i c _ e => h i c e
theorem Kq.list {a b : Mem} (h : Kq a b) {i : Nat} {xs : List W} (e : listAt a i = some xs) : listAt b i = some xs := by
  have := h i _ (listAt_some e)
  unfold listAt
  rw [this]
theorem Kq.dr {r s : Nat} {row : List Int} {a b : Mem} (h : Kq a b) (d : Dr r s row a) : Dr r s row b := by
  obtain ⟨n, n0, e⟩ := d.spot
  exact d.kp h.kp ⟨n, n0, h.list e⟩
/-- a new place may change -/
theorem Kq.set {a b : Mem} (h : Kq a b) {i : Nat} {c : Cell} (l : a.length ≤ i) : Kq a (b.set i c) := fun j x e => by
  have hj := (List.getElem?_eq_some_iff.mp e).1
  rw [List.getElem?_set_ne (by omega)]
  exact h j x e
def pl (r : Rl) : Bool := r.w == ("pull" : Str)
def pls (rs : List Rl) : List Int := (rs.filter pl).map Rl.s
structure RsOk (n : Int) (host : Bool) (rs : List Rl) : Prop where
  ok : ∀ r ∈ rs, RlOk n host r
  nd : rs.Nodup
  le : rs.length ≤ 12
  pl : (pls rs).Nodup
theorem RsOk.sok {n : Int} {host : Bool} {rs : List Rl} (h : RsOk n host rs) : ∀ r ∈ rs, r.sOk = true := fun r m => (h.ok r m).sok
theorem RsOk.mono {n k : Int} {host : Bool} {rs : List Rl} (h : RsOk n host rs) (l : n ≤ k) : RsOk k host rs := ⟨fun r m => (h.ok r m).mono l, h.nd, h.le, h.pl⟩
theorem tupleV_loc {m : Mem} {i : Nat} {xs : List W} (h : listAt m i = some xs) : tupleV [.loc i] m = some (.tup xs, m) := by
  show (listAt m i).map _ = _
  rw [h]
  rfl
def F_fit_rules : Fn := runB 4 b__law_fit_rules
theorem pull_ok : sOk "pull" = true := by decide +kernel
theorem ix_s (r : Rl) (m : Mem) : ixV r.enc (.int 0) m = some (.int r.s, m) := rfl
theorem ix_w (r : Rl) (m : Mem) : ixV r.enc (.int 1) m = some (.str r.w, m) := rfl
theorem ix_t (r : Rl) (m : Mem) : ixV r.enc (.int 2) m = some (.int r.t, m) := rfl
theorem ix_a (r : Rl) (m : Mem) : ixV r.enc (.int 3) m = some (.str r.a, m) := rfl
theorem walk_loc {m : Mem} {i : Nat} {xs : List W} (h : listAt m i = some xs) : walkOf (.loc i) m = some ⟨locN i, xs.length⟩ := by
  unfold walkOf
  dsimp only
  rw [h]
  rfl
theorem locN_eq {m : Mem} {i k : Nat} {xs : List W} (h : listAt m i = some xs) : locN i k m = some xs[k]? := by
  unfold locN
  rw [h]
  rfl
theorem nodup_snoc {α : Type} {l : List α} {x : α} (h : l.Nodup) (n : x ∉ l) : (l ++ [x]).Nodup := by
  rw [List.nodup_append]
  refine ⟨h, by simp, ?_⟩
  intro a ha b hb e
  rw [List.mem_singleton] at hb
  subst hb
  subst e
  exact n ha
theorem pls_snoc {rs : List Rl} {r : Rl} : pls (rs ++ [r]) = pls rs ++ (if pl r = true then [r.s] else []) := by
  unfold pls
  rw [List.filter_append, List.map_append]
  by_cases h : pl r = true
  · rw [if_pos h, List.filter_cons, if_pos h]; rfl
  · rw [if_neg h, List.filter_cons, if_neg h]; rfl
theorem fit_rules_post {mem : Mem} {i : Nat} {rs : List Rl} {n : Int} {host : Bool} {Q : W → Mem → Prop} {ex : Exc → Mem → Prop} (hl : listAt mem i = some (rs.map Rl.enc)) (hok : ∀ r ∈ rs, RlOk n host r) 
    (h : ∀ (qs : List Rl) (m : Mem), RsOk n host qs → Kq mem m → Q (.tup (qs.map Rl.enc)) m) : (F_fit_rules [.loc i] mem).Post Q ex := by
  have hi := listAt_lt hl
  have hsz : sizeLine = 16777216 := sizeLine_eq
  unfold F_fit_rules b__law_fit_rules
  walk_at "wk"
  refine ⟨Nat.zero_le _, Nat.zero_le _, ?_⟩
  rw [walk_loc (listAt_app (listAt_app hl))]
  walk_at "wk"
  refine ws_loop (rs.map Rl.enc) (fun k env m => ∃ (x : Option W) (made : List Rl), env = [some (.loc i), some (.loc mem.length), some (.loc (mem ++ [Cell.lst []]).length), x] ∧
    listAt m mem.length = some (made.map Rl.enc) ∧ listAt m (mem.length + 1) = some ((pls made).map W.int) ∧ RsOk n host made ∧ Kq mem m) ?_ ?_ ?_ ?_
  · rintro k env m hk ⟨x, made, rfl, h1, h2, h3, h4⟩
    exact locN_eq (h4.list hl)
  · refine ⟨none, [], rfl, ?_, ?_, ⟨fun _ z => (by cases z), List.nodup_nil, Nat.zero_le _, List.nodup_nil⟩, Kq.app.trans Kq.app⟩
    · exact listAt_app listAt_new
    · have := listAt_new (mem := mem ++ [Cell.lst []]) (xs := [])
      rw [List.length_append, List.length_singleton] at this
      exact this
  · rintro k x env m hx ⟨x0, made, rfl, h1, h2, h3, h4⟩
    rw [List.getElem?_map] at hx
    cases e : rs[k]? with
    | none => rw [e] at hx; cases hx
    | some r =>
      rw [e] at hx
      cases hx
      have hr := hok r (List.mem_of_getElem? e)
      have hlen : (mem ++ [Cell.lst []]).length = mem.length + 1 := by rw [List.length_append, List.length_singleton]
      walk_at "wk"
      rw [hlen, notInV, in_rules h1 hr.sok h3.sok, Option.map_some, wp_lift]
      walk_at "wk"
      by_cases c1 : r ∈ made
      · rw [decide_eq_true c1]
        walk_at "wk"
        exact ⟨_, made, rfl, h1, h2, h3, h4⟩
      rw [decide_eq_false c1]
      walk_at "wk"
      rw [lenV_items (w := .loc mem.length) h1, wp_lift, List.length_map]
      show (lift (ltV _ _ _)).Post _ _
      unfold ltV iiV
      walk_at "wk"
      by_cases c2 : (made.length : Int) < 12
      · rw [decide_eq_true c2]
        walk_at "wk"
        rw [ix_w, wp_lift, eqV_str (wh_ok _ hr.w) pull_ok, wp_lift]
        walk_at "wk"
        have hz1 : (made.map Rl.enc).length < sizeLine := by rw [List.length_map, hsz]; omega
        have ha := append_loc (w := r.enc) h1 hz1
        have h1' := listAt_set (xs := made.map Rl.enc ++ [r.enc]) h1
        have h2' : listAt (m.set mem.length (.lst (made.map Rl.enc ++ [r.enc]))) (mem.length + 1) = some ((pls made).map W.int) := by rw [listAt_set_ne (by omega)]; exact h2
        have h4' : Kq mem (m.set mem.length (.lst (made.map Rl.enc ++ [r.enc]))) := h4.set (Nat.le_refl _)
        have gok : ∀ q ∈ made ++ [r], RlOk n host q := fun q hq => (List.mem_append.mp hq).elim (h3.ok q) fun z => by rw [List.mem_singleton] at z; exact z ▸ hr
        have gnd := nodup_snoc h3.nd c1
        have gle : (made ++ [r]).length ≤ 12 := by rw [List.length_append, List.length_singleton]; omega
        by_cases c3 : pl r = true
        · have c3' : (r.w == ("pull" : Str)) = true := c3
          rw [c3']
          walk_at "wk"
          rw [ix_s, wp_lift, inV2, in_ints h2, Option.map_some, wp_lift]
          walk_at "wk"
          by_cases c4 : r.s ∈ pls made
          · rw [decide_eq_true c4]
            walk_at "wk"
            exact ⟨_, made, rfl, h1, h2, h3, h4⟩
          · rw [decide_eq_false c4]
            walk_at "wk"
            refine ⟨chk_loc h1, ?_⟩
            rw [ha, wp_lift, ix_w, wp_lift, eqV_str (wh_ok _ hr.w) pull_ok, wp_lift]
            walk_at "wk"
            rw [c3']
            walk_at "wk"
            refine ⟨chk_loc h2', ?_⟩
            have hz2 : ((pls made).map W.int).length < sizeLine := by
              have : (pls made).length ≤ made.length := by unfold pls; rw [List.length_map]; exact List.length_filter_le _ _
              rw [List.length_map, hsz]; omega
            rw [ix_s, wp_lift, append_loc h2' hz2, wp_lift]
            have ep : pls (made ++ [r]) = pls made ++ [r.s] := by rw [pls_snoc, if_pos c3]
            refine ⟨_, made ++ [r], rfl, ?_, ?_, ⟨gok, gnd, gle, by rw [ep]; exact nodup_snoc h3.pl c4⟩, h4'.set (by omega)⟩
            · rw [listAt_set_ne (by omega), h1', List.map_append]
              rfl
            · rw [listAt_set h2', ep, List.map_append]
              rfl
        · have c3' : (r.w == ("pull" : Str)) = false := by simpa [pl] using c3
          rw [c3']
          walk_at "wk"
          refine ⟨chk_loc h1, ?_⟩
          rw [ha, wp_lift, ix_w, wp_lift, eqV_str (wh_ok _ hr.w) pull_ok, wp_lift]
          walk_at "wk"
          rw [c3']
          walk_at "wk"
          have ep : pls (made ++ [r]) = pls made := by rw [pls_snoc, if_neg c3, List.append_nil]
          refine ⟨_, made ++ [r], rfl, ?_, ?_, ⟨gok, gnd, gle, by rw [ep]; exact h3.pl⟩, h4'⟩
          · rw [h1', List.map_append]
            rfl
          · rw [h2', ep]
      · rw [decide_eq_false c2]
        walk_at "wk"
        exact ⟨_, made, rfl, h1, h2, h3, h4⟩
  · rintro env m ⟨x, made, rfl, h1, h2, h3, h4⟩
    walk_at "wk"
    rw [tupleV_loc h1]
    exact h made m h3 h4
end Sh
set_option linter.all false
set_option maxRecDepth 100000
set_option
        maxHeartbeats 4000000
/-! MF: states, frames and rules renamed. -/
namespace Sh
open PySem PySem.Spec
        PyProof.Rows L2
local macro_rules | `(tactic| walk_at "wk") => `(tactic| try simp only [wr_run, ws_seq, ws_ret, ws_retN, ws_next, ws_brk, ws_ct, ws_drop, ws_set, ws_if, ws_asg, ws_par, ws_aug, ws_for, wp_ok, wp_bad, wp_pure, wp_bind, wp_lift, wp_lift0, wp_var, wp_c, wp_bin, wp_un, wp_callN, wp_callF, wp_nil, wp_cons, wp_tup, wp_lst, wp_andV, wp_orV, wp_notV, wp_ifE, wp_tB, wp_andB, wp_orB, wp_notB, wp_chain, wp_optN, wp_optS, wp_slice, wp_meth, wp_lr, wp_lc, wp_seqI, wp_rng1, wg_name, wg_nil, wg_cons, wg_seq, wg_sub, startE, List.map_cons, List.map_nil, List.length_cons, List.length_nil, List.getElem?_cons_zero, List.getElem?_cons_succ, List.cons_append, List.nil_append, List.set_cons_zero, List.set_cons_succ, List.replicate_succ, List.replicate_zero, Nat.reduceSub, Nat.reduceAdd, isB, if_true, if_false, Bool.false_eq_true, Bool.not_true, Bool.not_false, reduceIte, yesB])
/-! ### permutations of the first numbers -/
def nth (o : List Int) (i : Int) : Int := o.getD i.toNat 0
def rng (n : Nat) : List Int := (List.range n).map fun i => ((i : Nat) : Int)
def IsP (n : Nat) (o : List Int) : Prop := o.Perm (rng n)
theorem rng_nodup (n : Nat) : (rng n).Nodup := by
  unfold rng
  rw [List.Nodup, List.pairwise_map]
  exact List.nodup_range.imp fun h e => h (Int.ofNat.inj e)
theorem rng_mem {n : Nat} {x : Int} : x ∈ rng n ↔ 0 ≤ x ∧ x < n := by
  unfold rng
  rw [List.mem_map]
  refine ⟨fun ⟨k, hk, e⟩ => ?_, fun h => ⟨x.toNat, List.mem_range.mpr (by omega), by omega⟩⟩
  have := List.mem_range.mp hk
  omega
section
variable {n : Nat} {o : List Int} {i j : Int}
theorem IsP.len (h : IsP n o) : o.length = n := by rw [h.length_eq]; unfold rng; rw [List.length_map, List.length_range]
theorem nth_eq (h : IsP n o) (h0 : 0 ≤ i) (h1 : i < n) : ∃ hl : i.toNat < o.length, nth o i = o[i.toNat] := by
  have hl : i.toNat < o.length := by rw [h.len]; omega
  exact ⟨hl, by unfold nth; rw [List.getD_eq_getElem?_getD, List.getElem?_eq_getElem hl]; rfl⟩
theorem IsP.lo (h : IsP n o) (h0 : 0 ≤ i) (h1 : i < n) : 0 ≤ nth o i := by
  obtain ⟨hl, e⟩ := nth_eq h h0 h1
  have := (h.mem_iff (a := o[i.toNat])).mp (List.getElem_mem hl)
  rw [e]
  exact (rng_mem.mp this).1
theorem IsP.hi (h : IsP n o) (h0 : 0 ≤ i) (h1 : i < n) : nth o i < n := by
  obtain ⟨hl, e⟩ := nth_eq h h0 h1
  have := (h.mem_iff (a := o[i.toNat])).mp (List.getElem_mem hl)
  rw [e]
  exact (rng_mem.mp this).2
theorem IsP.inj (h : IsP n o) (h0 : 0 ≤ i) (h1 : i < n) (j0 : 0 ≤ j) (j1 : j < n) (e : nth o i = nth o j) : i = j := by
  obtain ⟨hl, e1⟩ := nth_eq h h0 h1
  obtain ⟨hm, e2⟩ := nth_eq h j0 j1
  rw [e1, e2] at e
  have := (List.getElem_inj (h.nodup_iff.mpr (rng_nodup n))).mp e
  omega
theorem IsP.at (h : IsP n o) (h0 : 0 ≤ i) (h1 : i < n) : atI (o.map W.int) i = some (.int (nth o i)) := atI_int h0 (by rw [h.len]; omega)
theorem ix_loc {m : Mem} {f : Nat} (e : listAt m f = some (o.map W.int)) (h : IsP n o) (h0 : 0 ≤ i) (h1 : i < n) : ixV (.loc f) (.int i) m = some (.int (nth o i), m) := by
  rw [ixV_items (w := .loc f) e, h.at h0 h1]
  rfl
end
/-! ### words with a frame in them -/
def gotW (pre : Str) (a : Int) (z : Str) : Bool := cutS z none (some a) == pre
def giW (b : Int) (z : Str) : Int := (PySem.intText? (cutS z (some b) none)).getD 0
def rnX (pre full : Str) (a b : Int) (p : List Int) (z : Str) : Str := if gotW pre a z = true then full ++ (toString (nth p (giW b z)) : Str) else z
structure WordsOk (pre full : Str) (a b : Int) (S : List Str) : Prop where
  h0 : sOk pre = true
  h1 : ∀ z ∈ S, z.length ≤ sizeLine ∧ sOk (cutS z none (some a)) = true
  h2 : ∀ z ∈ S, gotW pre a z = true → (cutS z (some b) none).length ≤ 640 ∧ PySem.intText? (cutS z (some b) none) = some (giW b z) ∧ 0 ≤ giW b z ∧ giW b z < 4
  h3 : ∀ i ∈ [(0 : Int), 1, 2, 3], full ++ (toString i : Str) ∈ S ∧ gotW pre a (full ++ (toString i : Str)) = true ∧ full.length + (toString i : Str).length ≤ sizeLine ∧ i.natAbs.log2 < 1920
  h4 : ∀ i ∈ [(0 : Int), 1, 2, 3], ∀ j ∈ [(0 : Int), 1, 2, 3], full ++ (toString i : Str) = full ++ (toString j : Str) → i = j
  h5 : ∀ z ∈ S, ∀ y ∈ S, gotW pre a z = true → gotW pre a y = true → giW b z = giW b y → z = y
theorem wh_words : WordsOk "got" "got " 3 4 WH := ⟨by decide +kernel, by decide +kernel, by decide +kernel, by decide +kernel, by decide +kernel, by decide +kernel⟩
theorem ac_words : ∀ host, WordsOk "send" "send " 4 5 (AC host)
  | true => ⟨by decide +kernel, by decide +kernel, by decide +kernel, by decide +kernel, by decide +kernel, by decide +kernel⟩
  | false => ⟨by decide +kernel, by decide +kernel, by decide +kernel, by decide +kernel, by decide +kernel, by decide +kernel⟩
theorem four {i : Int} (h0 : 0 ≤ i) (h1 : i < 4) : i ∈ [(0 : Int), 1, 2, 3] := by
  have : i = 0 ∨ i = 1 ∨ i = 2 ∨ i = 3 := by omega
  simp [this]
section
variable {pre full : Str} {a b : Int} {S : List Str} {p : List Int}
theorem rnX_mem (h : WordsOk pre full a b S) (hp : IsP 4 p) {z : Str} (hz : z ∈ S) : rnX pre full a b p z ∈ S := by
  unfold rnX
  by_cases g : gotW pre a z = true
  · obtain ⟨_, _, g0, g1⟩ := h.h2 z hz g
    rw [if_pos g]
    exact (h.h3 _ (four (hp.lo g0 g1) (hp.hi g0 g1))).1
  · rw [if_neg g]
    exact hz
theorem rnX_inj (h : WordsOk pre full a b S) (hp : IsP 4 p) {z y : Str} (hz : z ∈ S) (hy : y ∈ S) (e : rnX pre full a b p z = rnX pre full a b p y) : z = y := by
  unfold rnX at e
  by_cases g : gotW pre a z = true
  · obtain ⟨_, _, g0, g1⟩ := h.h2 z hz g
    rw [if_pos g] at e
    have k1 := h.h3 _ (four (hp.lo g0 g1) (hp.hi g0 g1))
    by_cases g' : gotW pre a y = true
    · obtain ⟨_, _, g2, g3⟩ := h.h2 y hy g'
      rw [if_pos g'] at e
      exact h.h5 z hz y hy g g' (hp.inj g0 g1 g2 g3 (h.h4 _ (four (hp.lo g0 g1) (hp.hi g0 g1)) _ (four (hp.lo g2 g3) (hp.hi g2 g3)) e))
    · rw [if_neg g'] at e
      rw [e] at k1
      exact absurd k1.2.1 g'
  · rw [if_neg g] at e
    by_cases g' : gotW pre a y = true
    · obtain ⟨_, _, g2, g3⟩ := h.h2 y hy g'
      rw [if_pos g'] at e
      have k1 := h.h3 _ (four (hp.lo g2 g3) (hp.hi g2 g3))
      rw [← e] at k1
      exact absurd k1.2.1 g
    · rw [if_neg g'] at e
      exact e
theorem slV_str {z : Str} {lo hi : Option Int} {m : Mem} (h : z.length ≤ sizeLine) : slV lo hi (.str z) m = some (.str (cutS z lo hi), m) := by
  unfold slV
  dsimp only
  rw [if_pos h]
theorem intV_str {z : Str} {n : Int} {m : Mem} (h : z.length ≤ 640) (e : PySem.intText? z = some n) : intV [.str z] m = some (.int n, m) := by
  unfold intV
  dsimp only
  rw [if_pos h, e]
  rfl
theorem strV_int {i : Int} {m : Mem} (h : i.natAbs.log2 < 1920) : strV [.int i] m = some (.str (toString i), m) := by
  unfold strV
  dsimp only
  rw [if_pos h]
theorem addV_str {x y : Str} {m : Mem} (h : x.length + y.length ≤ sizeLine) : addV (.str x) (.str y) m = some (.str (x ++ y), m) := by
  unfold addV
  dsimp only
  rw [if_pos h]
def rnE (pre full : Str) (a b c : Int) : EM := ifE (tB (bin eqV (sliceE (bin ixV (varE 6) (cE (.int c))) none (some (cE (.int a)))) (cE (.str pre)))) (bin addV (cE (.str full)) (callN strV (consA (bin ixV (varE 3) (callN intV (consA (sliceE (bin ixV (varE 6) (cE (.int c))) (some (cE (.int b))) none) nilA))) nilA))) (bin ixV (varE 6) (cE (.int c)))
theorem rnE_eq (h : WordsOk pre full a b S) (hp : IsP 4 p) {c : Int} {z : Str} (hz : z ∈ S) {env : VEnv} {mem : Mem} {r : W} {f : Nat} (e6 : env[6]? = some (some r)) (e3 : env[3]? = some (some (.loc f))) (hf : listAt mem f = some (p.map W.int)) (hr : ∀ m : Mem, ixV r (.int c) m = some (.str z, m)) {Q : W → Mem → Prop} {ex : Exc → Mem → Prop}
    (k : Q (.str (rnX pre full a b p z)) mem) : (rnE pre full a b c env mem).Post Q ex := by
  unfold rnE
  walk_at "wk"
  rw [e6]
  dsimp only
  rw [hr, wp_lift, slV_str (h.h1 z hz).1, wp_lift, eqV_str (h.h1 z hz).2 h.h0, wp_lift]
  walk_at "wk"
  unfold rnX gotW at k
  by_cases g : (cutS z none (some a) == pre) = true
  · rw [if_pos g] at k
    rw [if_pos g]
    obtain ⟨l1, l2, l3, l4⟩ := h.h2 z hz g
    rw [e3]
    dsimp only
    rw [hr, wp_lift, slV_str (h.h1 z hz).1, wp_lift, intV_str l1 l2, wp_lift, ix_loc hf hp l3 l4, wp_lift]
    have k1 := h.h3 _ (four (hp.lo l3 l4) (hp.hi l3 l4))
    rw [strV_int k1.2.2.2, wp_lift, addV_str k1.2.2.1, wp_lift]
    exact k
  · rw [if_neg g] at k
    rw [if_neg g]
    rw [hr, wp_lift]
    exact k
end
/-! ### rules renamed -/
def rnW (p : List Int) (z : Str) : Str := rnX "got" "got " 3 4 p z
def rnA (p : List Int) (z : Str) : Str := rnX "send" "send " 4 5 p z
def rnR (o p : List Int) (r : Rl) : Rl := ⟨nth o r.s, rnW p r.w, nth o r.t, rnA p r.a⟩
theorem rnW_pull (p : List Int) : rnW p "pull" = "pull" := by
  unfold rnW rnX
  rw [if_neg (by
          decide +kernel)]
theorem rnA_none (p : List Int) : rnA p "none" = "none" := by
  unfold rnA rnX
  rw [if_neg (by
          decide +kernel)]
section
variable {n : Nat} {o p : List Int} {host : Bool} {r q : Rl}
theorem wh_pull : ("pull" : Str) ∈ WH := by decide +kernel
theorem rnR_ok (ho : IsP n o) (hp : IsP 4 p) (h : RlOk n host r) : RlOk n host (rnR o p r) :=
  ⟨ho.lo h.s0 h.s1, ho.hi h.s0 h.s1, rnX_mem wh_words hp h.w, ho.lo h.t0 h.t1, ho.hi h.t0 h.t1, rnX_mem (ac_words host) hp h.a, fun e => by
    have e2 : rnW p r.w = rnW p "pull" := by rw [rnW_pull]; exact e
    have := h.p (rnX_inj wh_words hp h.w wh_pull e2)
    show rnA p r.a = _
    rw [this, rnA_none]⟩
theorem rnR_inj (ho : IsP n o) (hp : IsP 4 p) (h : RlOk n host r) (k : RlOk n host q) (e : rnR o p r = rnR o p q) : r = q := by
  have e1 := congrArg Rl.s e
  have e2 := congrArg Rl.w e
  have e3 := congrArg Rl.t e
  have e4 := congrArg Rl.a e
  have f1 := ho.inj h.s0 h.s1 k.s0 k.s1 e1
  have f2 := rnX_inj wh_words hp h.w k.w e2
  have f3 := ho.inj h.t0 h.t1 k.t0 k.t1 e3
  have f4 := rnX_inj (ac_words host) hp h.a k.a e4
  obtain ⟨_, _, _, _⟩ := r
  obtain ⟨_, _, _, _⟩ := q
  dsimp only at f1 f2 f3 f4
  subst f1 f2 f3 f4
  rfl
theorem pl_rn (hp : IsP 4 p) (h : RlOk n host r) : pl (rnR o p r) = pl r := by
  unfold pl
  rw [Bool.eq_iff_iff,
          beq_iff_eq, beq_iff_eq]
  refine ⟨fun e =>
          ?_, fun e => ?_⟩
  · have e2 : rnW p r.w = rnW p "pull" := by rw [rnW_pull]; exact e
    exact rnX_inj wh_words hp h.w wh_pull e2
  · show rnW p r.w = _
    rw [e, rnW_pull]
theorem nodup_map_on {α β : Type} {f : α → β} {l : List α} (h : l.Nodup) (k : ∀ a ∈ l, ∀ b ∈ l, f a = f b → a = b) : (l.map f).Nodup := by
  rw [List.Nodup, List.pairwise_map]
  exact h.imp_of_mem fun ha hb n e => n (k _ ha _ hb e)
theorem RsOk.rn {rs : List Rl} (ho : IsP n o) (hp : IsP 4 p) (h : RsOk n host rs) : RsOk n host (rs.map (rnR o p)) := by
  refine ⟨fun q hq => ?_, nodup_map_on h.nd fun a ha b hb e => rnR_inj ho hp (h.ok a ha) (h.ok b hb) e, by rw [List.length_map]; exact h.le, ?_⟩
  · obtain ⟨r, hr, rfl⟩ := List.mem_map.mp hq
    exact rnR_ok ho hp (h.ok r hr)
  · have e : pls (rs.map (rnR o p)) = (pls rs).map (nth o) := by
      unfold pls
      rw [List.filter_map, List.map_map, List.map_map]
      have : rs.filter (Sh.pl ∘ rnR o p) = rs.filter Sh.pl := List.filter_congr fun r hr => pl_rn hp (h.ok r hr)
      rw [this]
      rfl
    rw [e]
    refine nodup_map_on h.pl fun a ha b hb e => ?_
    have mem : ∀ x ∈ pls rs, 0 ≤ x ∧ x < n := fun x hx => by
      unfold pls at hx
      obtain ⟨r, hr, rfl⟩ := List.mem_map.mp hx
      have := h.ok r ((List.mem_filter.mp hr).1)
      exact ⟨this.s0, this.s1⟩
    exact ho.inj (mem a ha).1 (mem a ha).2 (mem b hb).1 (mem b hb).2 e
theorem RsOk.perm {k : Int} {rs qs : List Rl} (e : qs.Perm rs) (h : RsOk k host rs) : RsOk k host qs :=
  ⟨fun r hr => h.ok r (e.mem_iff.mp hr), e.nodup_iff.mpr h.nd, by rw [e.length_eq]; exact h.le, ((e.filter _).map _).nodup_iff.mpr h.pl⟩
end
end Sh
set_option linter.all false
set_option maxRecDepth 100000
set_option
        maxHeartbeats 4000000
/-! MG: sides renamed. -/
namespace Sh
open PySem PySem.Spec
        PyProof.Rows L2
local macro_rules | `(tactic| walk_at "wk") => `(tactic| try simp only [wr_run, ws_seq, ws_ret, ws_retN, ws_next, ws_brk, ws_ct, ws_drop, ws_set, ws_if, ws_asg, ws_par, ws_aug, ws_for, wp_ok, wp_bad, wp_pure, wp_bind, wp_lift, wp_lift0, wp_var, wp_c, wp_bin, wp_un, wp_callN, wp_callF, wp_nil, wp_cons, wp_tup, wp_lst, wp_andV, wp_orV, wp_notV, wp_ifE, wp_tB, wp_andB, wp_orB, wp_notB, wp_chain, wp_optN, wp_optS, wp_slice, wp_meth, wp_lr, wp_lc, wp_seqI, wp_rng1, wg_name, wg_nil, wg_cons, wg_seq, wg_sub, startE, List.map_cons, List.map_nil, List.length_cons, List.length_nil, List.getElem?_cons_zero, List.getElem?_cons_succ, List.cons_append, List.nil_append, List.set_cons_zero, List.set_cons_succ, List.replicate_succ, List.replicate_zero, Nat.reduceSub, Nat.reduceAdd, isB, if_true, if_false, Bool.false_eq_true, Bool.not_true, Bool.not_false, reduceIte, yesB])
structure SdOk (host : Bool) (x : Sd) : Prop where
  n1 : 1 ≤ x.n
  n5 : x.n ≤ 5
  b0 : 0 ≤ x.b
  b1 : x.b < x.n
  rs : RsOk x.n host x.rs
theorem getL {α β : Type} {xs : List α} {f : α → β} {k : Nat} {x : β} (h : (xs.map f)[k]? = some x) : ∃ y, xs[k]? = some y ∧ x = f y := by
  rw [List.getElem?_map] at h
  cases e : xs[k]? with
  | none => rw [e]
          at h; cases h
  | some y => rw [e] at h; cases h; exact ⟨y, rfl, rfl⟩
theorem take_snoc {α : Type} {xs : List α} {k : Nat} {x : α} (h : xs[k]? = some x) : xs.take (k + 1) = xs.take k ++ [x] := by
  rw [List.take_add_one, h]
  rfl
theorem map_nth_perm {α : Type} {n : Nat} {p : List Int} {L : List α} (d : α) (h : IsP n p) (hl : L.length = n) : (p.map fun j => L.getD j.toNat d).Perm L := by
  refine (h.map _).trans ?_
  unfold rng
  rw [List.map_map]
  have : (List.range n).map ((fun j : Int => L.getD j.toNat d) ∘ fun i => ((i : Nat) : Int)) = L := by
    subst hl
    refine List.ext_getElem (by
            simp) fun i h1 h2 => ?_
    simp [List.getD_eq_getElem?_getD, h2]
  rw [this]
def F_renamed : Fn := runB 10 (b__law_renamed F_shuffled)
theorem b_renamed_eq (f__law_shuffled : Fn) : b__law_renamed f__law_shuffled =
  (seqS (setS 4 (callF f__law_shuffled (consA (varE 0) (consA (varE 1) (consA (bin ixV (varE 2) (cE (.int 0))) nilA)))))
    (seqS (setS 5 (lstE nilA))
    (seqS (forS (seqI (bin ixV (varE 2) (cE (.int 2)))) (nameG 6) (seqS (setS 7 (rnE "got" "got " 3 4 1))
    (seqS (setS 8 (rnE "send" "send " 4 5 3))
    (dropS (methE chkL appendV (varE 5) (consA (tupE (consA (bin ixV (varE 4) (bin ixV (varE 6) (cE (.int 0)))) (consA (varE 7) (consA (bin ixV (varE 4) (bin ixV (varE 6) (cE (.int 2)))) (consA (varE 8) nilA))))) nilA))))))
    (seqS (setS 5 (lcE (seqI (callF f__law_shuffled (consA (varE 0) (consA (varE 1) (consA (callN lenV (consA (varE 5) nilA)) nilA))))) (nameG 9) yesB (bin ixV (varE 5) (varE 9)) [9]))
    (retS (tupE (consA (bin ixV (varE 2) (cE (.int 0))) (consA (bin ixV (varE 4) (bin ixV (varE 2) (cE (.int 1)))) (consA (callN tupleV (consA (varE 5) nilA)) nilA))))))))) := rfl
def dRl : Rl := ⟨0, "", 0, ""⟩
theorem renamed_post {row : List Int} {r s f : Nat} {mem : Mem} {host : Bool} {N : Nat} {b : Int} {rs : List Rl} {p : List Int} {Q : W → Mem → Prop} {ex : Exc → Mem → Prop} (d : Dr r s row mem) (hx : SdOk host ⟨N, b, rs⟩) (hfs : f ≠ s) (hf : listAt mem f = some (p.map W.int)) (hp : IsP 4 p)
    (h : ∀ (o : List Int) (qs : List Rl) (m : Mem), IsP N o → qs.Perm (rs.map (rnR o p)) → Dr r s row m → Kp s mem m → Q (Sd.enc ⟨N, nth o b, qs⟩) m) : (F_renamed [.loc r, .loc s, Sd.enc ⟨N, b, rs⟩, .loc f] mem).Post Q ex := by
  have hsz : sizeLine = 16777216 := sizeLine_eq
  have hN : N ≤ 5 := by have := hx.n5; dsimp only at this; omega
  have hok := hx.rs.ok
  have hle := hx.rs.le
  have hs := d.s_lt
  dsimp only at hok hle
  unfold F_renamed
  refine Eq.mpr wr_run ?_
  rw [b_renamed_eq]
  walk_at "wk"
  rw [show ixV (Sd.enc ⟨N, b, rs⟩) (.int 0) mem = some (.int N, mem) from rfl, wp_lift]
  refine shuffled_post d (by omega) fun i1 o m1 ho hi1 h1 d1 k1 => ?_
  walk_at "wk"
  refine ⟨Nat.zero_le _, ?_⟩
  rw [show ∀ m, ixV (Sd.enc ⟨N, b, rs⟩) (.int 2) m = some (.tup (rs.map Rl.enc), m) from fun _ => rfl, wp_lift]
  refine ws_loop (rs.map Rl.enc) (fun k env m => ∃ (x y z : Option W), env = [some (.loc r), some (.loc s), some (Sd.enc ⟨N, b, rs⟩), some (.loc f), some (.loc i1), some (.loc m1.length), x, y, z, none] ∧
    listAt m m1.length = some (((rs.take k).map (rnR o p)).map Rl.enc) ∧ Kq m1 m) ?_ ?_ ?_ ?_
  · rintro k env m hk _
    rfl
  · exact ⟨none, none, none, rfl, listAt_new, Kq.app⟩
  · rintro k x env m hx' ⟨x0, y0, z0, rfl, h2, h3⟩
    obtain ⟨q, e, rfl⟩ := getL hx'
    have hq := hok q (List.mem_of_getElem? e)
    have hf' := h3.list (k1.list hfs hf)
    have ho' := h3.list h1
    walk_at "wk"
    refine rnE_eq wh_words hp hq.w (r := q.enc) rfl rfl hf' (ix_w q) ?_
    walk_at "wk"
    refine rnE_eq (ac_words host) hp hq.a (r := q.enc) rfl rfl hf' (ix_a q) ?_
    walk_at "wk"
    refine ⟨chk_loc h2, ?_⟩
    rw [ix_s, wp_lift, ix_loc ho' ho hq.s0 hq.s1, wp_lift, ix_t, wp_lift, ix_loc ho' ho hq.t0 hq.t1, wp_lift]
    refine ⟨by rw [hsz]; decide, ?_⟩
    have hz : (((rs.take k).map (rnR o p)).map Rl.enc).length < sizeLine := by rw [List.length_map, List.length_map, List.length_take, hsz]; omega
    rw [append_loc h2 hz, wp_lift]
    refine ⟨_, _, _, rfl, ?_, h3.set (Nat.le_refl _)⟩
    rw [listAt_set h2, take_snoc e, List.map_append, List.map_append]
    rfl
  · rintro env m ⟨x, y, z, rfl, h2, h3⟩
    rw [List.length_map, List.take_length] at h2
    have d2 := h3.dr d1
    have hlen : ((rs.map (rnR o p)).map Rl.enc).length = rs.length := by rw [List.length_map, List.length_map]
    walk_at "wk"
    rw [lenV_items (w := .loc m1.length) h2, wp_lift, hlen]
    refine shuffled_post d2 (by omega) fun i2 p2 m2 hp2 hi2 h4 d4 k4 => ?_
    have hm1 : i1 < m1.length := listAt_lt h1
    have hm : m1.length < m.length := listAt_lt h2
    have hm2 : i2 < m2.length := listAt_lt h4
    have h2' := k4.list (by omega) h2
    rw [walk_loc h4]
    have ent : ∀ j ∈ p2, 0 ≤ j ∧ j < rs.length := fun j hj => rng_mem.mp ((List.Perm.mem_iff hp2).mp hj)
    obtain ⟨m', e, q⟩ := lc_loop (nx := locN i2) (g := nameG 9) (t := yesB) (e := bin ixV (varE 5) (varE 9)) (vs := [9]) (D := m2.length) (env := [some (.loc r), some (.loc s), some (Sd.enc ⟨N, b, rs⟩), some (.loc f), some (.loc i1), some (.loc m1.length), x, y, z, none])
      (Q := fun m' => listAt m' m2.length = some ((p2.map fun j => (rs.map (rnR o p)).getD j.toNat dRl).map Rl.enc) ∧ Kq m2 m') (p2.map W.int)
      (fun k m' => listAt m' m2.length = some (((p2.take k).map fun j => (rs.map (rnR o p)).getD j.toNat dRl).map Rl.enc) ∧ Kq m2 m')
      (fun k m' _ j => locN_eq (j.2.list h4)) (mem := m2 ++ [.lst []]) ⟨listAt_new, Kq.app⟩
      (fun k v m' hv j0' => by
        obtain ⟨j0, e, rfl⟩ := getL hv
        have hj := ent j0 (List.mem_of_getElem? e)
        have hL : j0.toNat < (rs.map (rnR o p)).length := by rw [List.length_map]; omega
        show Res.Post (ixV (W.loc m1.length) (W.int j0) m' |> lift) _ _
        have h2'' := j0'.2.list h2'
        rw [ixV_items (w := .loc m1.length) h2'']
        obtain ⟨y0, e1, e2⟩ := atI_at (xs := (rs.map (rnR o p)).map Rl.enc) hj.1 (by rw [hlen]; exact hj.2)
        rw [e2, Option.map_some, wp_lift]
        obtain ⟨q0, e3, rfl⟩ := getL e1
        have hz : (((p2.take k).map fun j => (rs.map (rnR o p)).getD j.toNat dRl).map Rl.enc).length < sizeLine := by
          have := IsP.len (n := rs.length) hp2
          rw [List.length_map, List.length_map, List.length_take, hsz]; omega
        refine ⟨_, j0'.1, hz, ?_, j0'.2.set (Nat.le_refl _)⟩
        rw [listAt_set j0'.1, take_snoc e, List.map_append, List.map_append]
        have e5 : (rs.map (rnR o p)).getD j0.toNat dRl = q0 := by rw [List.getD_eq_getElem?_getD, e3]; rfl
        show _ = some (_ ++ [Rl.enc ((rs.map (rnR o p)).getD j0.toNat dRl)])
        rw [e5]) 
      (fun m' j => by rw [List.length_map, List.take_length] at j; exact j)
    dsimp only
    rw [e]
    dsimp only
    obtain ⟨q1, q2⟩ := q
    have h1' : listAt m' i1 = some (o.map W.int) := q2.list (k4.list (by omega) (h3.list h1))
    rw [show ∀ m, ixV (Sd.enc ⟨N, b, rs⟩) (.int 0) m = some (.int N, m) from fun _ => rfl, wp_lift, show ∀ m, ixV (Sd.enc ⟨N, b, rs⟩) (.int 1) m = some (.int b, m) from fun _ => rfl, wp_lift, ix_loc h1' ho hx.b0 hx.b1, wp_lift, tupleV_loc q1, wp_lift]
    refine ⟨by rw [hsz]; decide, ?_⟩
    exact h o _ m' ho (map_nth_perm dRl hp2 (by rw [List.length_map])) (q2.dr d4) (((k1.trans h3.kp).trans k4).trans q2.kp)
end Sh
set_option linter.all false
set_option maxRecDepth 100000
set_option
        maxHeartbeats 4000000
/-! MH: sides varied. -/
namespace Sh
open PySem PySem.Spec
        PyProof.Rows L2
local macro_rules | `(tactic| walk_at "wk") => `(tactic| try simp only [wr_run, ws_seq, ws_ret, ws_retN, ws_next, ws_brk, ws_ct, ws_drop, ws_set, ws_if, ws_asg, ws_par, ws_aug, ws_for, wp_ok, wp_bad, wp_pure, wp_bind, wp_lift, wp_lift0, wp_var, wp_c, wp_bin, wp_un, wp_callN, wp_callF, wp_nil, wp_cons, wp_tup, wp_lst, wp_andV, wp_orV, wp_notV, wp_ifE, wp_tB, wp_andB, wp_orB, wp_notB, wp_chain, wp_optN, wp_optS, wp_slice, wp_meth, wp_lr, wp_lc, wp_seqI, wp_rng1, wg_name, wg_nil, wg_cons, wg_seq, wg_sub, startE, List.map_cons, List.map_nil, List.length_cons, List.length_nil, List.getElem?_cons_zero, List.getElem?_cons_succ, List.cons_append, List.nil_append, List.set_cons_zero, List.set_cons_succ, List.replicate_succ, List.replicate_zero, Nat.reduceSub, Nat.reduceAdd, isB, if_true, if_false, Bool.false_eq_true, Bool.not_true, Bool.not_false, reduceIte, yesB])
def vP0 (f__law_take f__law_drawn_rule f__law_pick f__law_acts f__law_whens : Fn) : SS := (dropS (methE chkL popV (varE 6) (consA (callF f__law_take (consA (varE 0) (consA (varE 1) (consA (callN lenV (consA (varE 6) nilA)) nilA)))) nilA)))
def vP1 (f__law_take f__law_drawn_rule f__law_pick f__law_acts f__law_whens : Fn) : SS := (dropS (methE chkL insertV (varE 6) (consA (callF f__law_take (consA (varE 0) (consA (varE 1) (consA (bin addV (callN lenV (consA (varE 6) nilA)) (cE (.int 1))) nilA)))) (consA (callF f__law_drawn_rule (consA (varE 0) (consA (varE 1) (consA (varE 4) (consA (varE 3) nilA))))) nilA))))
def vP2 (f__law_take f__law_drawn_rule f__law_pick f__law_acts f__law_whens : Fn) : SS := (seqS (setS 8 (callF f__law_take (consA (varE 0) (consA (varE 1) (consA (callN lenV (consA (varE 6) nilA)) nilA))))) (asgS (bin addV (sliceE (bin ixV (varE 6) (varE 8)) none (some (cE (.int 2)))) (tupE (consA (callF f__law_take (consA (varE 0) (consA (varE 1) (consA (varE 4) nilA)))) (consA (bin ixV (bin ixV (varE 6) (varE 8)) (cE (.int 3))) nilA)))) (subG setV (varE 6) (varE 8))))
def vP3 (f__law_take f__law_drawn_rule f__law_pick f__law_acts f__law_whens : Fn) : SS := (seqS (setS 8 (callF f__law_take (consA (varE 0) (consA (varE 1) (consA (callN lenV (consA (varE 6) nilA)) nilA))))) (ifS (tB (bin neV (bin ixV (bin ixV (varE 6) (varE 8)) (cE (.int 1))) (cE (.str "pull")))) (asgS (bin addV (sliceE (bin ixV (varE 6) (varE 8)) none (some (cE (.int 3)))) (tupE (consA (callF f__law_pick (consA (varE 0) (consA (varE 1) (consA (callF f__law_acts (consA (varE 3) nilA)) nilA)))) nilA))) (subG setV (varE 6) (varE 8))) nextS))
def vP4 (f__law_take f__law_drawn_rule f__law_pick f__law_acts f__law_whens : Fn) : SS := (dropS (methE chkL appendV (varE 6) (consA (tupE (consA (callF f__law_take (consA (varE 0) (consA (varE 1) (consA (varE 4) nilA)))) (consA (cE (.str "pull")) (consA (callF f__law_take (consA (varE 0) (consA (varE 1) (consA (varE 4) nilA)))) (consA (cE (.str "none")) nilA))))) nilA)))
def vP5 (f__law_take f__law_drawn_rule f__law_pick f__law_acts f__law_whens : Fn) : SS := (setS 4 (bin addV (varE 4) (cE (.int 1))))
def vP6 (f__law_take f__law_drawn_rule f__law_pick f__law_acts f__law_whens : Fn) : SS := (dropS (methE chkL appendV (varE 6) (consA (tupE (consA (callF f__law_take (consA (varE 0) (consA (varE 1) (consA (varE 4) nilA)))) (consA (callF f__law_pick (consA (varE 0) (consA (varE 1) (consA (sliceE (callF f__law_whens nilA) (some (cE (.int 2))) none) nilA)))) (consA (callF f__law_take (consA (varE 0) (consA (varE 1) (consA (varE 4) nilA)))) (consA (cE (.str "none")) nilA))))) nilA)))
theorem b_varied_eq (f__law_take : Fn) (f__law_drawn_rule : Fn) (f__law_pick : Fn) (f__law_acts : Fn) (f__law_whens : Fn) (f__law_fit_rules : Fn) : b__law_varied f__law_take f__law_drawn_rule f__law_pick f__law_acts f__law_whens f__law_fit_rules = (seqS (asgS (varE 2) (seqG 3 (consG (nameG 4) (consG (nameG 5) (consG (nameG 6) nilG))))) (seqS (setS 6 (callN listV (consA (varE 6) nilA))) (seqS (setS 7 (callF f__law_take (consA (varE 0) (consA (varE 1) (consA (cE (.int 7)) nilA))))) (seqS (ifS (andB (tB (bin eqV (varE 7) (cE (.int 0)))) (tB (bin gtV (callN lenV (consA (varE 6) nilA)) (cE (.int 0))))) (vP0 f__law_take f__law_drawn_rule f__law_pick f__law_acts f__law_whens) (ifS (tB (bin eqV (varE 7) (cE (.int 1)))) (vP1 f__law_take f__law_drawn_rule f__law_pick f__law_acts f__law_whens) (ifS (andB (tB (bin eqV (varE 7) (cE (.int 2)))) (tB (bin gtV (callN lenV (consA (varE 6) nilA)) (cE (.int 0))))) (vP2 f__law_take f__law_drawn_rule f__law_pick f__law_acts f__law_whens) (ifS (andB (tB (bin eqV (varE 7) (cE (.int 3)))) (tB (bin gtV (callN lenV (consA (varE 6) nilA)) (cE (.int 0))))) (vP3 f__law_take f__law_drawn_rule f__law_pick f__law_acts f__law_whens) (ifS (tB (bin eqV (varE 7) (cE (.int 4)))) (vP4 f__law_take f__law_drawn_rule f__law_pick f__law_acts f__law_whens) (ifS (andB (tB (bin eqV (varE 7) (cE (.int 5)))) (tB (bin ltV (varE 4) (cE (.int 5))))) (vP5 f__law_take f__law_drawn_rule f__law_pick f__law_acts f__law_whens) (vP6 f__law_take f__law_drawn_rule f__law_pick f__law_acts f__law_whens))))))) (retS (tupE (consA (varE 4) (consA (varE 5) (consA (callF f__law_fit_rules (consA (varE 6) nilA)) nilA))))))))) := rfl
def F_varied : Fn := runB 9 (b__law_varied F_take F_drawn_rule F_pick F_acts F_whens F_fit_rules)
section
variable {q : SQ} {mem : Mem} {env : VEnv} {s t : SS}
theorem seq_mid {J : VEnv → Mem → Prop} (h : (s env mem).Post ⟨J, q.rt, q.bk, q.ct, q.ex⟩) (k : ∀ e m, J e m → (t e m).Post q) : (seqS s t env mem).Post q := by
  rw [ws_seq]
  exact h.imp k (fun _ _ z => z) (fun _ _ z => z) (fun _ _ z => z) (fun _ _ _ z => z)
theorem if_eq {i : Nat} {v c : Int} (e : env[i]? = some (some (.int v))) (h1 : v = c → (s env mem).Post q) (h2 : (t env mem).Post q) : (ifS (tB (bin eqV (varE i) (cE (.int c)))) s t env mem).Post q := by
  walk_at "wk"
  rw [e]
  dsimp only
  rw [eqV_int, wp_lift]
  dsimp only
  by_cases h : v = c
  · rw [if_pos (beq_iff_eq.mpr h)]; exact h1 h
  · rw [if_neg (fun z => h (beq_iff_eq.mp z))]; exact h2
theorem if_and {i : Nat} {v c : Int} {T : EM} {bb : Bool} (e : env[i]? = some (some (.int v))) (hT : T env mem = .ok (.bl bb) mem) (h1 : bb = true → (s env mem).Post q) (h2 : (t env mem).Post q) : (ifS (andB (tB (bin eqV (varE i) (cE (.int c)))) (tB T)) s t env mem).Post q := by
  walk_at "wk"
  rw [e]
  dsimp only
  rw [eqV_int, wp_lift]
  dsimp only
  by_cases h : v = c
  · rw [if_pos (beq_iff_eq.mpr h), hT]
    show (if bb = true then _ else _)
    by_cases hb : bb = true
    · rw [if_pos hb]; exact h1 hb
    · rw [if_neg hb]; exact h2
  · rw [if_neg (fun z => h (beq_iff_eq.mp z))]; exact h2
end
/-- what the turns of a side leave -/
def GoodV (r s L : Nat) (row : List Int) (mem : Mem) (sd : W) (host : Bool) (n b : Int) (e : VEnv) (m : Mem) : Prop := ∃ (k : Int) (ls : List Rl) (x y : Option W), e = [some (.loc r), some (.loc s), some sd, some (.bl host), some (.int k), some (.int b), some (.loc L), x, y] ∧
  n ≤ k ∧ k ≤ 5 ∧ (∀ q ∈ ls, RlOk k host q) ∧ listAt m L = some (ls.map Rl.enc) ∧ Dr r s row m ∧ Kp s mem m
theorem len_loc {m : Mem} {i : Nat} {xs : List W} (h : listAt m i = some xs) : lenV [.loc i] m = some (.int xs.length, m) := lenV_items (w := .loc i) h
theorem ixV_rl {m : Mem} {i : Nat} {rs : List Rl} {k : Int} (h : listAt m i = some (rs.map Rl.enc)) (k0 : 0 ≤ k) (k1 : k < rs.length) : ∃ q, q ∈ rs ∧ ixV (.loc i) (.int k) m = some (q.enc, m) := by
  obtain ⟨x, e1, e2⟩ := atI_at (xs := rs.map Rl.enc) k0 (by rw [List.length_map]; exact k1)
  obtain ⟨q, e3, rfl⟩ := getL e1
  refine ⟨q, List.mem_of_getElem? e3, ?_⟩
  rw [ixV_items (w := .loc i) h, e2]
  rfl
theorem set_loc {m : Mem} {i : Nat} {rs : List Rl} {k : Int} {q : Rl} (h : listAt m i = some (rs.map Rl.enc)) (k0 : 0 ≤ k) (k1 : k < rs.length) : setV (.loc i) (.int k) q.enc m = some (m.set i (.lst ((rs.set k.toNat q).map Rl.enc))) := by
  unfold setV
  dsimp only
  rw [h, Option.bind, List.length_map, ixN_at k0 k1, List.map_set]
  rfl
theorem Kp.set_new {s i : Nat} {a b : Mem} {c : Cell} (h : Kp s a b) (l : a.length ≤ i) : Kp s a (b.set i c) := fun j x n e => by
  have hj := (List.getElem?_eq_some_iff.mp e).1
  rw [List.getElem?_set_ne (by omega)]
  exact h j x n e
theorem gone {a b : List Rl} {n : Int} {host : Bool} (h : ∀ q ∈ a, RlOk n host q) (k : ∀ q ∈ b, q ∈ a) : ∀ q ∈ b, RlOk n host q := fun q m => h q (k q m)
section
variable {row : List Int} {r s L : Nat} {mem m1 : Mem} {host : Bool} {n b v : Int} {rs : List Rl} {sd : W} {q : SQ}
theorem v0_post (d : Dr r s row m1) (hl : listAt m1 L = some (rs.map Rl.enc)) (hL : mem.length ≤ L) (hr : r < mem.length) (hs : s < mem.length) (k : Kp s mem m1) (hok : ∀ q ∈ rs, RlOk n host q) (hle : rs.length ≤ 12) (hn : 1 ≤ n) (hn5 : n ≤ 5) (hne : 0 < rs.length)
    (hq : ∀ e m, GoodV r s L row mem sd host n b e m → q.nx e m) : (vP0 F_take F_drawn_rule F_pick F_acts F_whens [some (.loc r), some (.loc s), some sd, some (.bl host), some (.int n), some (.int b), some (.loc L), some (.int v), none] m1).Post q := by
  have hsz : sizeLine = 16777216 := sizeLine_eq
  unfold vP0
  walk_at "wk"
  refine ⟨chk_loc hl, ?_⟩
  rw [len_loc hl, wp_lift, List.length_map]
  refine take_post d (by omega) fun u m2 u0 u1 d2 k2 l2 => ?_
  have hl2 := k2.list (by omega) hl
  have e1 : popV (.loc L) [.int u] m2 = some (((rs[u.toNat]?).getD dRl).enc, m2.set L (.lst ((rs.eraseIdx u.toNat).map Rl.enc))) := by
    have hv : u.toNat < rs.length := by omega
    unfold popV
    dsimp only
    rw [hl2]
    dsimp only [Option.bind]
    rw [List.length_map, if_pos (by omega), ixN_at u0 u1]
    dsimp only
    rw [List.getElem?_map, List.getElem?_eq_getElem hv, map_eraseIdx]
    rfl
  rw [e1, wp_lift]
  exact hq _ _ ⟨n, rs.eraseIdx u.toNat, _, _, rfl, Int.le_refl _, hn5, gone hok fun q hq => List.mem_of_mem_eraseIdx hq, listAt_set hl2, d2.set (by omega) (by omega), (k.trans k2).set_new hL⟩
theorem v1_post (d : Dr r s row m1) (hl : listAt m1 L = some (rs.map Rl.enc)) (hL : mem.length ≤ L) (hr : r < mem.length) (hs : s < mem.length) (k : Kp s mem m1) (hok : ∀ q ∈ rs, RlOk n host q) (hle : rs.length ≤ 12) (hn : 1 ≤ n) (hn5 : n ≤ 5)
    (hq : ∀ e m, GoodV r s L row mem sd host n b e m → q.nx e m) : (vP1 F_take F_drawn_rule F_pick F_acts F_whens [some (.loc r), some (.loc s), some sd, some (.bl host), some (.int n), some (.int b), some (.loc L), some (.int v), none] m1).Post q := by
  have hsz : sizeLine = 16777216 := sizeLine_eq
  unfold vP1
  walk_at "wk"
  refine ⟨chk_loc hl, ?_⟩
  rw [len_loc hl, wp_lift, List.length_map]
  show Res.Post (F_take [.loc r, .loc s, .int ((rs.length : Int) + 1)] m1) _ _
  refine take_post d (by omega) fun u m2 u0 u1 d2 k2 l2 => ?_
  refine drawn_rule_post d2 (by omega) fun z m3 hz d3 k3 => ?_
  have hl3 := k3.list (by omega) (k2.list (by omega) hl)
  have e1 : insertV (.loc L) [.int u, z.enc] m3 = some (.non, m3.set L (.lst ((rs.take u.toNat ++ [z] ++ rs.drop u.toNat).map Rl.enc))) := by
    unfold insertV
    dsimp only
    rw [hl3]
    dsimp only [Option.bind]
    rw [if_pos (by rw [List.length_map]; omega), List.map_append, List.map_append, List.map_take, List.map_drop]
    rfl
  rw [e1, wp_lift]
  refine hq _ _ ⟨n, rs.take u.toNat ++ [z] ++ rs.drop u.toNat, _, _, rfl, Int.le_refl _, hn5, fun q hq => ?_, listAt_set hl3, d3.set (by omega) (by omega), ((k.trans k2).trans k3).set_new hL⟩
  rcases List.mem_append.mp hq with h | h
  · rcases List.mem_append.mp
          h with h | h
    · exact hok q (List.mem_of_mem_take h)
    · rw [List.mem_singleton] at h; exact h ▸ hz
  · exact hok q (List.mem_of_mem_drop h)
theorem v2_post (d : Dr r s row m1) (hl : listAt m1 L = some (rs.map Rl.enc)) (hL : mem.length ≤ L) (hr : r < mem.length) (hs : s < mem.length) (k : Kp s mem m1) (hok : ∀ q ∈ rs, RlOk n host q) (hle : rs.length ≤ 12) (hn : 1 ≤ n) (hn5 : n ≤ 5) (hne : 0 < rs.length)
    (hq : ∀ e m, GoodV r s L row mem sd host n b e m → q.nx e m) : (vP2 F_take F_drawn_rule F_pick F_acts F_whens [some (.loc r), some (.loc s), some sd, some (.bl host), some (.int n), some (.int b), some (.loc L), some (.int v), none] m1).Post q := by
  have hsz : sizeLine = 16777216 := sizeLine_eq
  unfold vP2
  walk_at "wk"
  rw [len_loc hl, wp_lift, List.length_map]
  refine take_post d (by omega) fun u m2 u0 u1 d2 k2 l2 => ?_
  have hl2 := k2.list (by omega) hl
  obtain ⟨z, hz, e2⟩ := ixV_rl hl2 u0 u1
  have hzo := hok z hz
  rw [e2, wp_lift, show ∀ m, slV none (some 2) z.enc m = some (.tup [.int z.s, .str z.w], m) from fun _ => rfl, wp_lift]
  refine take_post d2 (by omega) fun t m3 t0 t1 d3 k3 l3 => ?_
  have hl3 := k3.list (by omega) hl2
  obtain ⟨z', hz', e3⟩ := ixV_rl hl3 u0 u1
  have ezz : z' = z := by
    have a1 := e2
    have a2 := e3
    rw [ixV_items (w := .loc L) hl2] at a1
    rw [ixV_items (w := .loc L) hl3] at a2
    cases ha : atI (rs.map Rl.enc) u with
    | none => rw [ha] at a1; cases a1
    | some w =>
      rw [ha, Option.map_some] at a1 a2
      have b1 : w = z.enc := congrArg Prod.fst (Option.some.inj a1)
      have b2 : w = z'.enc := congrArg Prod.fst (Option.some.inj a2)
      rw [b1] at b2
      obtain ⟨_, _, _, _⟩ := z
      obtain ⟨_, _, _, _⟩ := z'
      cases b2
      rfl
  subst ezz
  rw [e3, wp_lift, ix_a, wp_lift]
  refine ⟨by rw [hsz]; decide, ?_⟩
  rw [show ∀ m, addV (.tup [.int z'.s, .str z'.w]) (.tup [.int t, .str z'.a]) m = some (Rl.enc ⟨z'.s, z'.w, t, z'.a⟩, m) from fun m => by unfold addV; dsimp only; rw [if_pos (by rw [hsz]; simp)]; rfl, wp_lift, set_loc hl3 u0 u1]
  refine hq _ _ ⟨n, rs.set u.toNat ⟨z'.s, z'.w, t, z'.a⟩, _, _, rfl, Int.le_refl _, hn5, fun q hq => ?_, listAt_set hl3, d3.set (by omega) (by omega), ((k.trans k2).trans k3).set_new hL⟩
  rcases List.mem_or_eq_of_mem_set hq with h | h
  · exact hok q h
  · subst h
    exact ⟨hzo.s0, hzo.s1, hzo.w, t0, t1, hzo.a, hzo.p⟩
theorem ne_str {a b : Str} {m : Mem} (ha : sOk a = true) (hb : sOk b = true) : neV (.str a) (.str b) m = some (.bl (!(a == b)), m) := by
  have h := eqV_str (m := m) ha hb
  unfold eqV at h
  unfold neV
  cases e : eqvM m (.str a) (.str b) with
  | none => rw [e]
          at h; cases h
  | some x => rw [e] at h; cases h; rfl
theorem v3_post (d : Dr r s row m1) (hl : listAt m1 L = some (rs.map Rl.enc)) (hL : mem.length ≤ L) (hr : r < mem.length) (hs : s < mem.length) (k : Kp s mem m1) (hok : ∀ q ∈ rs, RlOk n host q) (hle : rs.length ≤ 12) (hn : 1 ≤ n) (hn5 : n ≤ 5) (hne : 0 < rs.length)
    (hq : ∀ e m, GoodV r s L row mem sd host n b e m → q.nx e m) : (vP3 F_take F_drawn_rule F_pick F_acts F_whens [some (.loc r), some (.loc s), some sd, some (.bl host), some (.int n), some (.int b), some (.loc L), some (.int v), none] m1).Post q := by
  have hsz : sizeLine = 16777216 := sizeLine_eq
  unfold vP3
  walk_at "wk"
  rw [len_loc hl, wp_lift, List.length_map]
  refine take_post d (by omega) fun u m2 u0 u1 d2 k2 l2 => ?_
  have hl2 := k2.list (by omega) hl
  obtain ⟨z, hz, e2⟩ := ixV_rl hl2 u0 u1
  have hzo := hok z hz
  rw [e2, wp_lift, ix_w, wp_lift, ne_str (wh_ok _ hzo.w) pull_ok, wp_lift]
  dsimp only
  by_cases c : (z.w == ("pull" : Str)) = true
  · rw [c]
    walk_at "wk"
    exact hq _ _ ⟨n, rs, _, _, rfl, Int.le_refl _, hn5, hok, hl2, d2, k.trans k2⟩
  · rw [Bool.not_eq_true] at c
    rw [c]
    walk_at "wk"
    rw [e2, wp_lift, show ∀ m, slV none (some 3) z.enc m = some (.tup [.int z.s, .str z.w, .int z.t], m) from fun _ => rfl, wp_lift, acts_eq, wp_ok]
    have hs2 := d2.s_lt
    refine pick_strs d2.app (by omega) listAt_new (by cases host <;> decide) fun a m3 ha d3 k3 l3 => ?_
    have hl3 := (Kp.app_of k3).list (by omega) hl2
    refine ⟨by rw [hsz]; decide, ?_⟩
    rw [show ∀ m, addV (.tup [.int z.s, .str z.w, .int z.t]) (.tup [.str a]) m = some (Rl.enc ⟨z.s, z.w, z.t, a⟩, m) from fun m => by unfold addV; dsimp only; rw [if_pos (by rw [hsz]; simp)]; rfl, wp_lift, set_loc hl3 u0 u1]
    refine hq _ _ ⟨n, rs.set u.toNat ⟨z.s, z.w, z.t, a⟩, _, _, rfl, Int.le_refl _, hn5, fun q hq => ?_, listAt_set hl3, d3.set (by omega) (by omega), ((k.trans k2).trans (Kp.app_of k3)).set_new hL⟩
    rcases List.mem_or_eq_of_mem_set hq with h | h
    · exact hok q h
    · subst h
      exact ⟨hzo.s0, hzo.s1, hzo.w, hzo.t0, hzo.t1, ha, fun e => absurd e (by simpa using c)⟩
theorem none_ac (host : Bool) : ("none" : Str) ∈ AC host := by cases host <;> decide +kernel
theorem snoc_ok {z : Rl} (hok : ∀ q ∈ rs, RlOk n host q) (hz : RlOk n host z) : ∀ q ∈ rs ++ [z], RlOk n host q := fun q hq => by
  rcases List.mem_append.mp hq with h | h
  · exact hok q h
  · rw [List.mem_singleton] at h; exact h ▸ hz
theorem append_rl {m : Mem} {z : Rl} (h : listAt m L = some (rs.map Rl.enc)) (hle : rs.length ≤ 12) : appendV (.loc L) [z.enc] m = some (.non, m.set L (.lst ((rs ++ [z]).map Rl.enc))) := by
  rw [append_loc h (by rw [List.length_map, sizeLine_eq]; omega), List.map_append]
  rfl
theorem v4_post (d : Dr r s row m1) (hl : listAt m1 L = some (rs.map Rl.enc)) (hL : mem.length ≤ L) (hr : r < mem.length) (hs : s < mem.length) (k : Kp s mem m1) (hok : ∀ q ∈ rs, RlOk n host q) (hle : rs.length ≤ 12) (hn : 1 ≤ n) (hn5 : n ≤ 5)
    (hq : ∀ e m, GoodV r s L row mem sd host n b e m → q.nx e m) : (vP4 F_take F_drawn_rule F_pick F_acts F_whens [some (.loc r), some (.loc s), some sd, some (.bl host), some (.int n), some (.int b), some (.loc L), some (.int v), none] m1).Post q := by
  have hsz : sizeLine = 16777216 := sizeLine_eq
  unfold vP4
  walk_at "wk"
  refine ⟨chk_loc hl, ?_⟩
  refine take_post d (by omega) fun u m2 u0 u1 d2 k2 l2 => ?_
  refine take_post d2 (by omega) fun t m3 t0 t1 d3 k3 l3 => ?_
  have hl3 := k3.list (by omega) (k2.list (by omega) hl)
  refine ⟨by rw [hsz]; decide, ?_⟩
  rw [show W.tup [.int u, .str "pull", .int t, .str "none"] = Rl.enc ⟨u, "pull", t, "none"⟩ from rfl, append_rl hl3 hle, wp_lift]
  exact hq _ _ ⟨n, _, _, _, rfl, Int.le_refl _, hn5, snoc_ok hok ⟨u0, u1, wh_pull, t0, t1, none_ac host, fun _ => rfl⟩, listAt_set hl3, d3.set (by omega) (by omega), ((k.trans k2).trans k3).set_new hL⟩
theorem wh2_wh : ∀ z ∈ WH.drop 2, z ∈ WH := by decide +kernel
theorem wh2_pull : ∀ z ∈ WH.drop 2, z ≠ ("pull" : Str) := by decide +kernel
theorem v6_post (d : Dr r s row m1) (hl : listAt m1 L = some (rs.map Rl.enc)) (hL : mem.length ≤ L) (hr : r < mem.length) (hs : s < mem.length) (k : Kp s mem m1) (hok : ∀ q ∈ rs, RlOk n host q) (hle : rs.length ≤ 12) (hn : 1 ≤ n) (hn5 : n ≤ 5)
    (hq : ∀ e m, GoodV r s L row mem sd host n b e m → q.nx e m) : (vP6 F_take F_drawn_rule F_pick F_acts F_whens [some (.loc r), some (.loc s), some sd, some (.bl host), some (.int n), some (.int b), some (.loc L), some (.int v), none] m1).Post q := by
  have hsz : sizeLine = 16777216 := sizeLine_eq
  unfold vP6
  walk_at "wk"
  refine ⟨chk_loc hl, ?_⟩
  refine take_post d (by omega) fun u m2 u0 u1 d2 k2 l2 => ?_
  rw [whens_eq, wp_ok]
  have e1 : slV (some 2) none (.loc m2.length) (m2 ++ [Cell.lst (WH.map W.str)]) = some (.loc (m2 ++ [Cell.lst (WH.map W.str)]).length, m2 ++ [Cell.lst (WH.map W.str)] ++ [Cell.lst ((WH.drop 2).map W.str)]) := by
    unfold slV
    dsimp only
    rw [listAt_new]
    rfl
  rw [e1, wp_lift]
  have hs2 := d2.s_lt
  refine pick_strs d2.app.app (by rw [List.length_append]; omega) listAt_new (by decide) fun z m3 hz d3 k3 l3 => ?_
  have k3' := Kp.app_of (Kp.app_of k3)
  refine take_post d3 (by omega) fun t m4 t0 t1 d4 k4 l4 => ?_
  have hl4 := k4.list (by omega) (k3'.list (by omega) (k2.list (by omega) hl))
  refine ⟨by rw [hsz]; decide, ?_⟩
  rw [show W.tup [.int u, .str z, .int t, .str "none"] = Rl.enc ⟨u, z, t, "none"⟩ from rfl, append_rl hl4 hle, wp_lift]
  exact hq _ _ ⟨n, _, _, _, rfl, Int.le_refl _, hn5, snoc_ok hok ⟨u0, u1, wh2_wh z hz, t0, t1, none_ac host, fun e => absurd e (wh2_pull z hz)⟩, listAt_set hl4, d4.set (by omega) (by omega), (((k.trans k2).trans k3').trans k4).set_new hL⟩
end
/-- a list that all but s keep, through a draw -/
theorem varied_post {row : List Int} {r s : Nat} {mem : Mem} {host : Bool} {n b : Int} {rs : List Rl} {Q : W → Mem → Prop} {ex : Exc → Mem → Prop} (d : Dr r s row mem) (hx : SdOk host ⟨n, b, rs⟩)
    (h : ∀ (y : Sd) (m : Mem), SdOk host y → Dr r s row m → Kp s mem m → Q y.enc m) : (F_varied [.loc r, .loc s, Sd.enc ⟨n, b, rs⟩, .bl host] mem).Post Q ex := by
  have hsz : sizeLine = 16777216 := sizeLine_eq
  have hok := hx.rs.ok
  have hle := hx.rs.le
  have hn1 := hx.n1
  have hn5 := hx.n5
  have hb0 := hx.b0
  have hb1 := hx.b1
  have hs := d.s_lt
  dsimp only at hok hle hn1 hn5 hb0 hb1
  have fin : ∀ (k : Int) (ls : List Rl) (m : Mem), n ≤ k → k ≤ 5 → (∀ q ∈ ls, RlOk k host q) → listAt m mem.length = some (ls.map Rl.enc) → Dr r s row m → Kp s mem m →
      (F_fit_rules [.loc mem.length] m).Post (fun x m => 3 ≤ sizeLine ∧ Q (.tup [.int k, .int b, x]) m) ex := fun k ls m k1 k2 h1 h2 h3 h4 => by
    refine fit_rules_post h2 h1 fun qs m2 h5 h6 => ⟨by rw [hsz]; decide, ?_⟩
    exact h ⟨k, b, qs⟩ m2 ⟨by dsimp only; omega, k2, hb0, by dsimp only; omega, h5⟩ (h6.dr h3) (h4.trans h6.kp)
  unfold F_varied
  refine Eq.mpr wr_run ?_
  rw [b_varied_eq]
  refine seq_mid (J := fun e m => e = [some (.loc r), some (.loc s), some (Sd.enc ⟨n, b, rs⟩), some (.bl host), some (.int n), some (.int b), some (.tup (rs.map Rl.enc)), none, none] ∧ m = mem) ?_ ?_
  · walk_at "wk"
    rw [show itemsOf mem (Sd.enc ⟨n, b, rs⟩) = some [.int n, .int b, .tup (rs.map Rl.enc)] from rfl]
    walk_at "wk"
    trivial
  rintro _ m0 ⟨rfl, hm⟩
  rw [hm]
  clear hm m0
  refine seq_mid (J := fun e m => e = [some (.loc r), some (.loc s), some (Sd.enc ⟨n, b, rs⟩), some (.bl host), some (.int n), some (.int b), some (.loc mem.length), none, none] ∧ m = mem ++ [.lst (rs.map Rl.enc)]) ?_ ?_
  · walk_at "wk"
    rw [show listV [.tup (rs.map Rl.enc)] mem = some (.loc mem.length, mem ++ [.lst (rs.map Rl.enc)]) from rfl, wp_lift]
    exact ⟨rfl, rfl⟩
  rintro _ _ ⟨rfl, rfl⟩
  have d0 : Dr r s row (mem ++ [.lst (rs.map Rl.enc)]) := d.app
  have l0 : listAt (mem ++ [.lst (rs.map Rl.enc)]) mem.length = some (rs.map Rl.enc) := listAt_new
  have k0 : Kp s mem (mem ++ [.lst (rs.map Rl.enc)]) := Kp.app
  refine seq_mid (J := fun e m => ∃ v, e = [some (.loc r), some (.loc s), some (Sd.enc ⟨n, b, rs⟩), some (.bl host), some (.int n), some (.int b), some (.loc mem.length), some (.int v), none] ∧ Dr r s row m ∧ listAt m mem.length = some (rs.map Rl.enc) ∧ Kp s mem m) ?_ ?_
  · walk_at "wk"
    refine take_post d0 (by decide) fun v m1 v0 v1 d1 k1 e1 => ?_
    exact ⟨v, rfl, d1, k1.list (by omega) l0, k0.trans k1⟩
  rintro _ m1 ⟨v, rfl, d1, l1, k1⟩
  have hr := listAt_lt d.hrow
  have hT : bin gtV (callN lenV (consA (varE 6) nilA)) (cE (.int 0)) [some (.loc r), some (.loc s), some (Sd.enc ⟨n, b, rs⟩), some (.bl host), some (.int n), some (.int b), some (.loc mem.length), some (.int v), none] m1 = .ok (.bl (decide (0 < (rs.length : Int)))) m1 := by
    simp [bin, SM.bind, callN, consA, varE, nilA, SM.pure, len_loc l1, lift, gtV, iiV, cE]
  have hT5 : bin ltV (varE 4) (cE (.int 5)) [some (.loc r), some (.loc s), some (Sd.enc ⟨n, b, rs⟩), some (.bl host), some (.int n), some (.int b), some (.loc mem.length), some (.int v), none] m1 = .ok (.bl (decide (n < 5))) m1 := by
    simp [bin, SM.bind, varE, lift, ltV, iiV, cE]
  refine seq_mid (J := GoodV r s mem.length row mem (Sd.enc ⟨n, b, rs⟩) host n b) ?_ ?_
  · refine if_and (i := 7) rfl hT (fun hb => v0_post d1 l1 (Nat.le_refl _) hr hs k1 hok hle hn1 hn5 (by have := of_decide_eq_true hb; omega) fun _ _ z => z) ?_
    refine if_eq (i := 7) rfl (fun _ => v1_post d1 l1 (Nat.le_refl _) hr hs k1 hok hle hn1 hn5 fun _ _ z => z) ?_
    refine if_and (i := 7) rfl hT (fun hb => v2_post d1 l1 (Nat.le_refl _) hr hs k1 hok hle hn1 hn5 (by have := of_decide_eq_true hb; omega) fun _ _ z => z) ?_
    refine if_and (i := 7) rfl hT (fun hb => v3_post d1 l1 (Nat.le_refl _) hr hs k1 hok hle hn1 hn5 (by have := of_decide_eq_true hb; omega) fun _ _ z => z) ?_
    refine if_eq (i := 7) rfl (fun _ => v4_post d1 l1 (Nat.le_refl _) hr hs k1 hok hle hn1 hn5 fun _ _ z => z) ?_
    refine if_and (i := 7) rfl hT5 (fun hb => ?_) (v6_post d1 l1 (Nat.le_refl _) hr hs k1 hok hle hn1 hn5 fun _ _ z => z)
    have hb' := of_decide_eq_true hb
    unfold vP5
    walk_at "wk"
    exact ⟨n + 1, rs, _, _, rfl, by omega, by omega, fun q hq => (hok q hq).mono (by omega), l1, d1, k1⟩
  · rintro _ m ⟨k, ls, x, y, rfl, h1, h2, h3, h4, h5, h6⟩
    walk_at "wk"
    exact fin k ls m h1 h2 h3 h4 h5 h6
end Sh
set_option linter.all false
set_option maxRecDepth 100000
set_option
        maxHeartbeats 4000000
/-! MI: protocols drawn. -/
namespace Sh
open PySem PySem.Spec
        PyProof.Rows L2
local macro_rules | `(tactic| walk_at "wk") => `(tactic| try simp only [wr_run, ws_seq, ws_ret, ws_retN, ws_next, ws_brk, ws_ct, ws_drop, ws_set, ws_if, ws_asg, ws_par, ws_aug, ws_for, wp_ok, wp_bad, wp_pure, wp_bind, wp_lift, wp_lift0, wp_var, wp_c, wp_bin, wp_un, wp_callN, wp_callF, wp_nil, wp_cons, wp_tup, wp_lst, wp_andV, wp_orV, wp_notV, wp_ifE, wp_tB, wp_andB, wp_orB, wp_notB, wp_chain, wp_optN, wp_optS, wp_slice, wp_meth, wp_lr, wp_lc, wp_seqI, wp_rng1, wg_name, wg_nil, wg_cons, wg_seq, wg_sub, startE, List.map_cons, List.map_nil, List.length_cons, List.length_nil, List.getElem?_cons_zero, List.getElem?_cons_succ, List.cons_append, List.nil_append, List.set_cons_zero, List.set_cons_succ, List.replicate_succ, List.replicate_zero, Nat.reduceSub, Nat.reduceAdd, isB, if_true, if_false, Bool.false_eq_true, Bool.not_true, Bool.not_false, reduceIte, yesB])
instance {n : Int} {host : Bool} {r : Rl} : Decidable (RlOk n host r) := decidable_of_iff (0 ≤ r.s ∧ r.s < n ∧ r.w ∈ WH ∧ 0 ≤ r.t ∧ r.t < n ∧ r.a ∈ AC host ∧ (r.w = "pull" → r.a = "none"))
  ⟨fun ⟨a, b, c, d, e, f, g⟩ => ⟨a, b, c, d, e, f, g⟩, fun ⟨a, b, c, d, e, f, g⟩ => ⟨a, b, c, d, e, f, g⟩⟩
instance {n : Int} {host : Bool} {rs : List Rl} : Decidable (RsOk n host rs) := decidable_of_iff ((∀ r ∈ rs, RlOk n host r) ∧ rs.Nodup ∧ rs.length ≤ 12 ∧ (pls rs).Nodup)
  ⟨fun ⟨a, b, c, d⟩ => ⟨a, b, c, d⟩, fun ⟨a, b, c, d⟩ => ⟨a, b, c, d⟩⟩
instance {host : Bool} {x : Sd} : Decidable (SdOk host x) := decidable_of_iff (1 ≤ x.n ∧ x.n ≤ 5 ∧ 0 ≤ x.b ∧ x.b < x.n ∧ RsOk x.n host x.rs)
  ⟨fun ⟨a, b, c, d, e⟩ => ⟨a, b, c, d, e⟩, fun ⟨a, b, c, d, e⟩ => ⟨a, b, c, d, e⟩⟩
def PrOk (p : Sd × Sd) : Prop := SdOk true p.1 ∧ SdOk false p.2
instance {p : Sd × Sd} : Decidable (PrOk p) := inferInstanceAs (Decidable (_ ∧ _))
theorem bases_ok : ∀ p ∈ bases, PrOk p := by decide +kernel
theorem renamed_ok {row : List Int} {r s f : Nat} {mem : Mem} {host : Bool} {x : Sd} {p : List Int} {Q : W → Mem → Prop} {ex : Exc → Mem → Prop} (d : Dr r s row mem) (hx : SdOk host x) (hfs : f ≠ s) (hf : listAt mem f = some (p.map W.int)) (hp : IsP 4 p)
    (h : ∀ (y : Sd) (m : Mem), SdOk host y → Dr r s row m → Kp s mem m → Q y.enc m) : (F_renamed [.loc r, .loc s, x.enc, .loc f] mem).Post Q ex := by
  obtain ⟨n, b, rs⟩ := x
  have e : n = (n.toNat : Int) := by have := hx.n1; dsimp only at this; omega
  generalize n.toNat = N at e
  subst e
  refine renamed_post d hx hfs hf hp fun o qs m ho hq d' k' => h ⟨N, nth o b, qs⟩ m ⟨hx.n1, hx.n5, ho.lo hx.b0 hx.b1, ho.hi hx.b0 hx.b1, (hx.rs.rn ho hp).perm hq⟩ d' k'
/-- a comprehension over range(n) -/
theorem lc_range {g : GM} {t : BM} {e : EM} {vs : List Nat} {D : Nat} {env : VEnv} {Q : Mem → Prop} {lo : Int} (n : Nat) (J : Nat → Mem → Prop) {mem : Mem} (h0 : J 0 mem)
    (hs : ∀ (i : Nat) (mem : Mem), i < n → J i mem → (g (.int (lo + i)) (wipeE env vs) mem).Post (fun e1 m1 => (t e1 m1).Post (fun b m2 => if b = true then (e e1 m2).Post (fun w m3 => ∃ acc, listAt m3 D = some acc ∧ acc.length < sizeLine ∧ J (i + 1) (m3.set D (.lst (acc ++ [w])))) (fun _ _ => False) else J (i + 1) m2) (fun _ _ => False)) (fun _ _ => False))
    (hd : ∀ mem, J n mem → Q mem) : ∃ m, lcLoop (rngN lo n) g t e vs D env n 0 mem = some m ∧ Q m := by
  have h := lc_loop (nx := rngN lo n) (g := g) (t := t) (e := e) (vs := vs) (D := D) (env := env) (Q := Q) ((List.range n).map fun i => W.int (lo + (i : Nat))) J (fun i mem hi _ => by
    rw [List.length_map, List.length_range] at hi
    unfold rngN
    rw [List.getElem?_map]
    by_cases hl : i < n
    · rw [if_pos hl, List.getElem?_range hl]; rfl
    · rw [if_neg hl, List.getElem?_eq_none (by rw [List.length_range]; omega)]; rfl) h0 (fun i x mem hx j => by
    rw [List.getElem?_map] at hx
    by_cases hl : i < n
    · rw [List.getElem?_range hl] at hx
      cases hx
      exact hs i mem hl j
    · rw [List.getElem?_eq_none (by rw [List.length_range]; omega)] at hx
      cases hx) (fun mem j => hd mem (by rw [List.length_map, List.length_range] at j; exact j))
  rw [List.length_map, List.length_range] at h
  exact h
def pB (f__law_take f__law_drawn_rule f__law_fit_rules f__law_pick f__law_bases f__law_shuffled f__law_renamed f__law_varied : Fn) : SS := (seqS (setS 4 (bin addV (cE (.int 1)) (callF f__law_take (consA (varE 0) (consA (varE 1) (consA (cE (.int 5)) nilA)))))) (seqS (setS 5 (lcE (rng1I (consA (callF f__law_take (consA (varE 0) (consA (varE 1) (consA (cE (.int 13)) nilA)))) nilA)) (nameG 6) yesB (callF f__law_drawn_rule (consA (varE 0) (consA (varE 1) (consA (varE 4) (consA (varE 3) nilA))))) [6])) (dropS (methE chkL appendV (varE 2) (consA (tupE (consA (varE 4) (consA (callF f__law_take (consA (varE 0) (consA (varE 1) (consA (varE 4) nilA)))) (consA (callF f__law_fit_rules (consA (varE 5) nilA)) nilA)))) nilA)))))
def pA (f__law_take f__law_drawn_rule f__law_fit_rules f__law_pick f__law_bases f__law_shuffled f__law_renamed f__law_varied : Fn) : SS := (seqS (setS 2 (lstE nilA)) (seqS (forS (seqI (tupE (consA (cE (.bl true)) (consA (cE (.bl false)) nilA)))) (nameG 3) (pB f__law_take f__law_drawn_rule f__law_fit_rules f__law_pick f__law_bases f__law_shuffled f__law_renamed f__law_varied)) (retS (callN tupleV (consA (varE 2) nilA)))))
def pC (f__law_take f__law_drawn_rule f__law_fit_rules f__law_pick f__law_bases f__law_shuffled f__law_renamed f__law_varied : Fn) : SS := (ifS (tB (bin eqV (callF f__law_take (consA (varE 0) (consA (varE 1) (consA (cE (.int 2)) nilA)))) (cE (.int 0)))) (setS 3 (callF f__law_varied (consA (varE 0) (consA (varE 1) (consA (varE 3) (consA (cE (.bl true)) nilA)))))) (setS 9 (callF f__law_varied (consA (varE 0) (consA (varE 1) (consA (varE 9) (consA (cE (.bl false)) nilA)))))))
theorem b_protocol_eq (f__law_take f__law_drawn_rule f__law_fit_rules f__law_pick f__law_bases f__law_shuffled f__law_renamed f__law_varied : Fn) : b__law_protocol f__law_take f__law_drawn_rule f__law_fit_rules f__law_pick f__law_bases f__law_shuffled f__law_renamed f__law_varied = (seqS (ifS (tB (bin eqV (callF f__law_take (consA (varE 0) (consA (varE 1) (consA (cE (.int 6)) nilA)))) (cE (.int 0)))) (pA f__law_take f__law_drawn_rule f__law_fit_rules f__law_pick f__law_bases f__law_shuffled f__law_renamed f__law_varied) nextS) (seqS (setS 7 (callF f__law_pick (consA (varE 0) (consA (varE 1) (consA (callF f__law_bases nilA) nilA))))) (seqS (setS 8 (callF f__law_shuffled (consA (varE 0) (consA (varE 1) (consA (cE (.int 4)) nilA))))) (seqS (asgS (tupE (consA (callF f__law_renamed (consA (varE 0) (consA (varE 1) (consA (bin ixV (varE 7) (cE (.int 0))) (consA (varE 8) nilA))))) (consA (callF f__law_renamed (consA (varE 0) (consA (varE 1) (consA (bin ixV (varE 7) (cE (.int 1))) (consA (varE 8) nilA))))) nilA))) (seqG 2 (consG (nameG 3) (consG (nameG 9) nilG)))) (seqS (forS (rng1I (consA (bin ixV (lstE (consA (cE (.int 0)) (consA (cE (.int 1)) (consA (cE (.int 1)) (consA (cE (.int 2)) (consA (cE (.int 3)) nilA)))))) (callF f__law_take (consA (varE 0) (consA (varE 1) (consA (cE (.int 5)) nilA))))) nilA)) (nameG 6) (pC f__law_take f__law_drawn_rule f__law_fit_rules f__law_pick f__law_bases f__law_shuffled f__law_renamed f__law_varied)) (retS (tupE (consA (varE 3) (consA (varE 9) nilA))))))))) := rfl
def F_protocol : Fn := runB 10 (b__law_protocol F_take F_drawn_rule F_fit_rules F_pick F_bases F_shuffled F_renamed F_varied)
section
variable {row : List Int} {r s L : Nat} {mem m1 : Mem} {host : Bool} {q : SQ}
theorem pB_post {zs : List Sd} {x4 x5 x6 : Option W} (d : Dr r s row m1) (hl : listAt m1 L = some (zs.map Sd.enc)) (hL : mem.length ≤ L) (hr : r < mem.length) (hs : s < mem.length) (k : Kp s mem m1) (hle : zs.length ≤ 2)
    (hq : ∀ (y : Sd) (x4 x5 : Option W) (m : Mem), SdOk host y → listAt m L = some ((zs ++ [y]).map Sd.enc) → Dr r s row m → Kp s mem m → q.nx [some (.loc r), some (.loc s), some (.loc L), some (.bl host), x4, x5, x6, none, none, none] m) :
    (pB F_take F_drawn_rule F_fit_rules F_pick F_bases F_shuffled F_renamed F_varied [some (.loc r), some (.loc s), some (.loc L), some (.bl host), x4, x5, x6, none, none, none] m1).Post q := by
  have hsz : sizeLine = 16777216 := sizeLine_eq
  unfold pB
  walk_at "wk"
  refine take_post d (by decide) fun u m2 u0 u1 d2 k2 l2 => ?_
  rw [show addV (.int 1) (.int u) m2 = some (.int (1 + u), m2) from rfl, wp_lift]
  refine take_post d2 (by decide) fun c m3 c0 c1 d3 k3 l3 => ?_
  refine ⟨⟨by omega, by omega⟩, ?_⟩
  have hL1 := listAt_lt hl
  have hl3 := k3.list (by omega) (k2.list (by omega) hl)
  have hL3 := listAt_lt hl3
  have hs3 := d3.s_lt
  obtain ⟨m', e, ls, e1, e2, e3, e4⟩ := lc_range (g := nameG 6) (t := yesB) (e := callF F_drawn_rule (consA (varE 0) (consA (varE 1) (consA (varE 4) (consA (varE 3) nilA))))) (vs := [6]) (D := m3.length) (lo := 0) (env := [some (.loc r), some (.loc s), some (.loc L), some (.bl host), some (.int (1 + u)), x5, x6, none, none, none])
    (Q := fun m => ∃ ls : List Rl, listAt m m3.length = some (ls.map Rl.enc) ∧ (∀ q ∈ ls, RlOk (1 + u) host q) ∧ Dr r s row m ∧ Kp s m3 m) c.toNat
    (fun i m => ∃ ls : List Rl, ls.length = i ∧ listAt m m3.length = some (ls.map Rl.enc) ∧ (∀ q ∈ ls, RlOk (1 + u) host q) ∧ Dr r s row m ∧ Kp s m3 m) (mem := m3 ++ [.lst []])
    ⟨[], rfl, listAt_new, fun _ z => (by cases z), d3.app, Kp.app⟩
    (fun i m hi ⟨ls, h1, h2, h3, h4, h5⟩ => by
      walk_at "wk"
      refine drawn_rule_post h4 (by omega) fun z m4 hz d4 k4 => ?_
      have h2' := k4.list (by omega) h2
      have hr3 := listAt_lt d3.hrow
      refine ⟨_, h2', by rw [List.length_map]; omega, ls ++ [z], by rw [List.length_append, h1]; rfl, ?_, snoc_ok h3 hz, d4.set (by omega) (by omega), (h5.trans k4).set_new (Nat.le_refl _)⟩
      rw [listAt_set h2', List.map_append]
      rfl)
    (fun m ⟨ls, h1, h2⟩ => ⟨ls, h2⟩)
  rw [e]
  dsimp only
  have hl4 := e4.list (by omega) hl3
  refine ⟨chk_loc hl4, ?_⟩
  refine take_post e3 (by omega) fun b m5 b0 b1 d5 k5 l5 => ?_
  refine fit_rules_post (k5.list (by omega) e1) e2 fun qs m6 h6 k6 => ?_
  refine ⟨by rw [hsz]; decide, ?_⟩
  have hl6 := k6.list (k5.list (by omega) hl4)
  rw [show W.tup [.int (1 + u), .int b, .tup (qs.map Rl.enc)] = Sd.enc ⟨1 + u, b, qs⟩ from rfl, append_loc hl6 (by rw [List.length_map]; omega), wp_lift]
  have hr6 : r ≠ L := by omega
  refine hq ⟨1 + u, b, qs⟩ _ _ _ ⟨by dsimp only; omega, by dsimp only; omega, b0, b1, h6⟩ ?_ ((k6.dr d5).set (by omega) (by omega)) ?_
  · rw [listAt_set hl6, List.map_append]
    rfl
  · exact ((((((k.trans k2).trans k3).trans e4).trans k5).trans k6.kp)).set_new hL
theorem pA_post {x3 x4 x5 x6 : Option W} (d : Dr r s row mem)
    (hq : ∀ (p : Sd × Sd) (m : Mem), PrOk p → Dr r s row m → Kp s mem m → q.rt (enc2 p) m) :
    (pA F_take F_drawn_rule F_fit_rules F_pick F_bases F_shuffled F_renamed F_varied [some (.loc r), some (.loc s), none, none, none, none, none, none, none, none] mem).Post q := by
  have hsz : sizeLine = 16777216 := sizeLine_eq
  have hs := d.s_lt
  have hr := listAt_lt d.hrow
  unfold pA
  walk_at "wk"
  refine ⟨Nat.zero_le _, by rw [hsz]; decide, ?_⟩
  refine ws_loop [.bl true, .bl false] (fun k env m => ∃ (zs : List Sd) (x3 x4 x5 : Option W), env = [some (.loc r), some (.loc s), some (.loc mem.length), x3, x4, x5, none, none, none, none] ∧
    zs.length = k ∧ listAt m mem.length = some (zs.map Sd.enc) ∧ (∀ y, zs[0]? = some y → SdOk true y) ∧ (∀ y, zs[1]? = some y → SdOk false y) ∧ Dr r s row m ∧ Kp s mem m) ?_ ?_ ?_ ?_
  · rintro k env m hk _
    rfl
  · exact ⟨[], _, _, _, rfl, rfl, listAt_new, fun _ z => (by cases z), fun _ z => (by cases z), d.app, Kp.app⟩
  · rintro k x env m hx ⟨zs, x3, x4, x5, rfl, h1, h2, h3, h4, h5, h6⟩
    walk_at "wk"
    match k, hx, h1 with
    | 0, hx, h1 =>
      cases hx
      have : zs = [] := List.eq_nil_of_length_eq_zero h1
      subst this
      refine pB_post h5 h2 (Nat.le_refl _) hr hs h6 (by decide) fun y x4 x5 m ho hl d k => ?_
      exact ⟨[y], _, _, _, rfl, rfl, hl, fun z e => (by cases e; exact ho), fun _ z => (by cases z), d, k⟩
    | 1, hx, h1 =>
      cases hx
      match zs, h1 with
      | [z], _ =>
        refine pB_post h5 h2 (Nat.le_refl _) hr hs h6 (by simp) fun y x4 x5 m ho hl d k => ?_
        exact ⟨[z, y], _, _, _, rfl, rfl, hl, h3, fun z e => (by cases e; exact ho), d, k⟩
    | k + 2, hx, _ => cases hx
  · rintro env m ⟨zs, x3, x4, x5, rfl, h1, h2, h3, h4, h5, h6⟩
    walk_at "wk"
    rw [tupleV_loc h2, wp_lift]
    match zs, h1 with
    | [z, y], _ => exact hq (z, y) m ⟨h3 z rfl, h4 y rfl⟩ h5 h6
theorem varied_ok {x : Sd} {Q : W → Mem → Prop} {ex : Exc → Mem → Prop} (d : Dr r s row mem) (hx : SdOk host x) (h : ∀ (y : Sd) (m : Mem), SdOk host y → Dr r s row m → Kp s mem m → Q y.enc m) : (F_varied [.loc r, .loc s, x.enc, .bl host] mem).Post Q ex := varied_post d hx h
theorem protocol_post {Q : W → Mem → Prop} {ex : Exc → Mem → Prop} (d : Dr r s row mem)
    (hq : ∀ (p : Sd × Sd) (m : Mem), PrOk p → Dr r s row m → Kp s mem m → Q (enc2 p) m) : (F_protocol [.loc r, .loc s] mem).Post Q ex := by
  have hsz : sizeLine = 16777216 := sizeLine_eq
  have hs := d.s_lt
  have hr := listAt_lt d.hrow
  unfold F_protocol
  refine Eq.mpr wr_run ?_
  rw [b_protocol_eq]
  refine seq_mid (J := fun e m => e = [some (.loc r), some (.loc s), none, none, none, none, none, none, none, none] ∧ Dr r s row m ∧ Kp s mem m) ?_ ?_
  · walk_at "wk"
    refine take_post d (by decide) fun u m2 u0 u1 d2 k2 l2 => ?_
    rw [eqV_int, wp_lift]
    dsimp only
    by_cases c : (u == 0) = true
    · rw [if_pos c]
      exact pA_post (x3 := none) (x4 := none) (x5 := none) (x6 := none) d2 fun p m h1 h2 h3 => hq p m h1 h2 (k2.trans h3)
    · rw [if_neg c]
      exact ⟨trivial, d2, k2⟩
  rintro _ m1 ⟨rfl, d1, k1⟩
  refine seq_mid (J := fun e m => ∃ p, PrOk p ∧ e = [some (.loc r), some (.loc s), none, none, none, none, none, some (enc2 p), none, none] ∧ Dr r s row m ∧ Kp s mem m) ?_ ?_
  · walk_at "wk"
    refine bases_post fun i x hi hl => ?_
    have hs1 := d1.s_lt
    refine pick_post d1.app (Still.loc (by omega) hl) (by decide) fun k x m hx d2 k2 l2 => ?_
    obtain ⟨p, e, rfl⟩ := getL hx
    exact ⟨p, bases_ok p (List.mem_of_getElem? e), rfl, d2, k1.trans (Kp.app_of k2)⟩
  rintro _ m2 ⟨p, hp, rfl, d2, k2⟩
  refine seq_mid (J := fun e m => ∃ f o, IsP 4 o ∧ f ≠ s ∧ e = [some (.loc r), some (.loc s), none, none, none, none, none, some (enc2 p), some (.loc f), none] ∧ listAt m f = some (o.map W.int) ∧ Dr r s row m ∧ Kp s mem m) ?_ ?_
  · walk_at "wk"
    have hs2 := d2.s_lt
    refine shuffled_post (many := 4) d2 (by decide) fun i o m ho hi hl d3 k3 => ?_
    exact ⟨i, o, ho, by omega, rfl, hl, d3, k2.trans k3⟩
  rintro _ m3 ⟨f, o, ho, hf, rfl, hl, d3, k3⟩
  refine seq_mid (J := fun e m => ∃ h dv x, SdOk true h ∧ SdOk false dv ∧ e = [some (.loc r), some (.loc s), none, some h.enc, none, none, x, some (enc2 p), some (.loc f), some dv.enc] ∧ Dr r s row m ∧ Kp s mem m) ?_ ?_
  · walk_at "wk"
    rw [show ∀ m, ixV (enc2 p) (.int 0) m = some (p.1.enc, m) from fun _ => rfl, wp_lift]
    refine renamed_ok d3 hp.1 hf hl ho fun h m4 hh d4 k4 => ?_
    rw [show ∀ m, ixV (enc2 p) (.int 1) m = some (p.2.enc, m) from fun _ => rfl, wp_lift]
    refine renamed_ok d4 hp.2 hf (k4.list hf hl) ho fun dv m5 hd d5 k5 => ?_
    refine ⟨by rw [hsz]; decide, ?_⟩
    dsimp only [itemsOf]
    walk_at "wk"
    exact ⟨trivial, h, dv, _, hh, hd, rfl, d5, (k3.trans k4).trans k5⟩
  rintro _ m4 ⟨h, dv, x, hh, hd, rfl, d4, k4⟩
  refine seq_mid (J := fun e m => ∃ h dv x, SdOk true h ∧ SdOk false dv ∧ e = [some (.loc r), some (.loc s), none, some h.enc, none, none, x, some (enc2 p), some (.loc f), some dv.enc] ∧ Dr r s row m ∧ Kp s mem m) ?_ ?_
  · walk_at "wk"
    refine ⟨by rw [hsz]; decide, ?_⟩
    have hs4 := d4.s_lt
    refine take_post d4.app (by decide) fun u m5 u0 u1 d5 k5 l5 => ?_
    have hl5 := k5.list (by omega) (listAt_new (mem := m4) (xs := [W.int 0, W.int 1, W.int 1, W.int 2, W.int 3]))
    have hc : ∃ c : Int, 0 ≤ c ∧ c ≤ 3 ∧ atI [W.int 0, W.int 1, W.int 1, W.int 2, W.int 3] u = some (.int c) := by
      have hu : u = 0 ∨ u = 1 ∨ u = 2 ∨ u = 3 ∨ u = 4 := by omega
      rcases hu with rfl | rfl | rfl | rfl | rfl
      · exact ⟨0, by decide, by decide, rfl⟩
      · exact ⟨1, by decide, by decide, rfl⟩
      · exact ⟨1, by decide, by decide, rfl⟩
      · exact ⟨2, by decide, by decide, rfl⟩
      · exact ⟨3, by decide, by decide, rfl⟩
    obtain ⟨c, c0, c3, hc⟩ := hc
    rw [ixV_items (w := .loc m4.length) hl5, hc, Option.map_some, wp_lift]
    dsimp only
    refine ⟨⟨by omega, by omega⟩, ?_⟩
    refine ws_range c.toNat (fun k env m => ∃ h dv x, SdOk true h ∧ SdOk false dv ∧ env = [some (.loc r), some (.loc s), none, some h.enc, none, none, x, some (enc2 p), some (.loc f), some dv.enc] ∧ Dr r s row m ∧ Kp s mem m) ?_ ?_ ?_
    · exact ⟨h, dv, _, hh, hd, rfl, d5, k4.trans (Kp.app_of k5)⟩
    · rintro k env m hk ⟨h, dv, x, hh, hd, rfl, d6, k6⟩
      unfold pC
      walk_at "wk"
      refine take_post d6 (by decide) fun u m7 u0 u1 d7 k7 l7 => ?_
      rw [eqV_int, wp_lift]
      dsimp only
      by_cases z : (u == 0) = true
      · rw [if_pos z]
        refine varied_ok d7 hh fun y m8 hy d8 k8 => ?_
        exact ⟨y, dv, _, hy, hd, rfl, d8, (k6.trans k7).trans k8⟩
      · rw [if_neg z]
        refine varied_ok d7 hd fun y m8 hy d8 k8 => ?_
        exact ⟨h, y, _, hh, hy, rfl, d8, (k6.trans k7).trans k8⟩
    · rintro env m J
      exact J
  rintro _ m5 ⟨h, dv, x, hh, hd, rfl, d5, k5⟩
  walk_at "wk"
  refine ⟨by rw [hsz]; decide, ?_⟩
  exact hq (h, dv) m5 ⟨hh, hd⟩ d5 k5
end
end Sh
set_option linter.all false
set_option maxRecDepth 100000
set_option
        maxHeartbeats 4000000
/-! MJ: the script's numbers. -/
namespace Sh
open PySem PySem.Spec
        PyProof.Rows L2
local macro_rules | `(tactic| walk_at "wk") => `(tactic| try simp only [wr_run, ws_seq, ws_ret, ws_retN, ws_next, ws_brk, ws_ct, ws_drop, ws_set, ws_if, ws_asg, ws_par, ws_aug, ws_for, wp_ok, wp_bad, wp_pure, wp_bind, wp_lift, wp_lift0, wp_var, wp_c, wp_bin, wp_un, wp_callN, wp_callF, wp_nil, wp_cons, wp_tup, wp_lst, wp_andV, wp_orV, wp_notV, wp_ifE, wp_tB, wp_andB, wp_orB, wp_notB, wp_chain, wp_optN, wp_optS, wp_slice, wp_meth, wp_lr, wp_lc, wp_seqI, wp_rng1, wg_name, wg_nil, wg_cons, wg_seq, wg_sub, startE, List.map_cons, List.map_nil, List.length_cons, List.length_nil, List.getElem?_cons_zero, List.getElem?_cons_succ, List.cons_append, List.nil_append, List.set_cons_zero, List.set_cons_succ, List.replicate_succ, List.replicate_zero, Nat.reduceSub, Nat.reduceAdd, isB, if_true, if_false, Bool.false_eq_true, Bool.not_true, Bool.not_false, reduceIte, yesB])
def nLa : SS := (seqS (ifS (tB (bin eqV (varE 3) (cE (.int 0)))) brkS nextS) (seqS (dropS (methE chkL appendV (varE 1) (consA (bin modV (callN intV (consA (varE 3) nilA)) (cE (.int 997))) nilA))) (setS 3 (bin fdivV (varE 3) (cE (.int 997))))))
def nLb : SS := (seqS (setS 5 (bin modV (callN intV (consA (bin addV (bin addV (bin mulV (varE 2) (cE (.int 48271))) (bin mulV (varE 4) (cE (.int 69621)))) (cE (.int 11))) nilA)) (cE (.int 2147483647)))) (dropS (methE chkL appendV (varE 1) (consA (bin modV (callN intV (consA (bin addV (bin mulV (varE 5) (cE (.int 16807))) (varE 4)) nilA)) (cE (.int 2147483629))) nilA))))
theorem b_numbers_eq : b__law_numbers = (seqS (setS 1 (lstE nilA)) (seqS (forS (seqI (sliceE (varE 0) none (some (cE (.int 63))))) (nameG 2) (ifS (tB (bin geV (varE 2) (bin powV (cE (.int 10)) (cE (.int 18))))) (seqS (setS 3 (varE 2)) (forS (rng1I (consA (cE (.int 60)) nilA)) (nameG 4) nLa)) (forS (rng1I (consA (cE (.int 4)) nilA)) (nameG 4) nLb))) (seqS (ifS (tB (bin eqV (callN lenV (consA (varE 1) nilA)) (cE (.int 0)))) (dropS (methE chkL appendV (varE 1) (consA (cE (.int 0)) nilA))) nextS) (retS (varE 1))))) := rfl
def F_numbers : Fn := runB 6 b__law_numbers
section
variable {m : Mem} {i j : Int}
theorem modV_int (h : 0 < j) : modV (.int i) (.int j) m = some (.int (i % j), m) := by
  unfold modV iiV
  dsimp only
  rw [if_pos (decide_eq_true h)]
theorem fdivV_int (h : 0 < j) (h2 : j < 1073741824) : fdivV (.int i) (.int j) m = some (.int (i / j), m) := by
  unfold fdivV iiV
  dsimp only
  rw [if_pos (by rw [decide_eq_true h, decide_eq_true h2]; rfl)]
theorem mulV_int (h : -(2 ^ 64) < j) (h2 : j < 2 ^ 64) : mulV (.int i) (.int j) m = some (.int (i * j), m) := by
  unfold mulV iiV
  dsimp only
  rw [if_pos (by rw [decide_eq_true h, decide_eq_true h2]; simp)]
theorem intV_int : intV [.int i] m = some (.int i, m) := rfl
theorem addV_int : addV (.int i) (.int j) m = some (.int (i + j), m) := rfl
theorem subV_int : subV (.int i) (.int j) m = some (.int (i - j), m) := rfl
theorem geV_int : geV (.int i) (.int j) m = some (.bl (decide (j ≤ i)), m) := rfl
theorem gtV_int : gtV (.int i) (.int j) m = some (.bl (decide (j < i)), m) := rfl
theorem leV_int : leV (.int i) (.int j) m = some (.bl (decide (i ≤ j)), m) := rfl
theorem ltV_int : ltV (.int i) (.int j) m = some (.bl (decide (i < j)), m) := rfl
theorem append_int {L : Nat} {row : List Int} (h : listAt m L = some (row.map W.int)) (hz : row.length < 16777216) : appendV (.loc L) [.int i] m = some (.non, m.set L (.lst ((row ++ [i]).map W.int))) := by
  rw [append_loc h (by rw [List.length_map, sizeLine_eq]; exact hz), List.map_append]
  rfl
end
/-- the row while it grows -/
def NumI (L : Nat) (mem : Mem) (xs : List W) (b : Nat) (e : VEnv) (m : Mem) : Prop := ∃ (row : List Int) (x2 x3 x4 x5 : Option W), e = [some (.rol xs), some (.loc L), x2, x3, x4, x5] ∧ listAt m L = some (row.map W.int) ∧ row.length ≤ b ∧ Kq mem m
theorem numbers_post {mem : Mem} {ns : List Int} {Q : W → Mem → Prop} {ex : Exc → Mem → Prop} (h : ∀ (row : List Int) (m : Mem), 0 < row.length → listAt m mem.length = some (row.map W.int) → Kq mem m → Q (.loc mem.length) m) : (F_numbers [.rol (ns.map W.int)] mem).Post Q ex := by
  have hsz : sizeLine = 16777216 := sizeLine_eq
  unfold F_numbers
  refine Eq.mpr wr_run ?_
  rw [b_numbers_eq]
  walk_at "wk"
  refine ⟨Nat.zero_le _, ?_⟩
  rw [show slV none (some 63) (.rol (ns.map W.int)) (mem ++ [Cell.lst []]) = some (.loc (mem ++ [Cell.lst []]).length, mem ++ [Cell.lst []] ++ [.lst (cutW (ns.map W.int) none (some 63))]) from rfl, wp_lift, walk_loc listAt_new]
  dsimp only
  obtain ⟨cs, hcs, hlen⟩ : ∃ cs : List Int, cutW (ns.map W.int) none (some 63) = cs.map W.int ∧ cs.length ≤ 63 := by
    refine ⟨(ns.drop (HT.sIx (ns.map W.int).length 0 none)).take (HT.sIx (ns.map W.int).length (ns.map W.int).length (some 63) - HT.sIx (ns.map W.int).length 0 none), ?_, ?_⟩
    · unfold cutW
      rw [List.map_take,
              List.map_drop]
    · refine Nat.le_trans (List.length_take_le _ _) ?_
      show HT.sIx _ _ (some ((63 : Nat) : Int)) - _ ≤ 63
      rw [HT.sIx_nat]
      omega
  rw [hcs]
  have hl0 : (mem ++ [Cell.lst []]).length = mem.length + 1 := by rw [List.length_append]; rfl
  rw [hl0]
  refine ws_loop (cs.map W.int) (fun k env m => NumI mem.length mem (ns.map W.int) (60 * k) env m ∧ listAt m (mem.length + 1) = some (cs.map W.int)) ?_ ?_ ?_ ?_
  · rintro k env m hk ⟨_, h2⟩
    exact locN_eq h2
  · refine ⟨⟨[], _, _, _, _, rfl, listAt_app listAt_new, Nat.le_refl _, Kq.app.trans Kq.app⟩, ?_⟩
    rw [← hl0]
    exact listAt_new
  · rintro k x env m hx ⟨⟨row, x2, x3, x4, x5, rfl, h1, h2, h3⟩, h4⟩
    obtain ⟨c, e, rfl⟩ := getL hx
    have hk : k < 63 := by have := (List.getElem?_eq_some_iff.mp e).1; omega
    walk_at "wk"
    have hp : powV (.int 10) (.int 18) m = some (.int 1000000000000000000, m) := by
      unfold powV iiV
      dsimp only
      rw [if_pos (by decide)]
      rfl
    rw [hp, wp_lift, geV_int, wp_lift]
    dsimp only
    by_cases c1 : (1000000000000000000 : Int) ≤ c
    · rw [decide_eq_true c1, if_pos rfl]
      refine ⟨⟨by decide, by decide⟩, ?_⟩
      refine ws_range (Int.toNat 60) (fun i env m => ∃ (row : List Int) (left : Int) (x4 x5 : Option W), env = [some (.rol (ns.map W.int)), some (.loc mem.length), some (.int c), some (.int left), x4, x5] ∧ listAt m mem.length = some (row.map W.int) ∧ row.length ≤ 60 * k + i ∧ Kq mem m ∧ listAt m (mem.length + 1) = some (cs.map W.int)) ?_ ?_ ?_
      · exact ⟨row, c, _, _, rfl, h1, by omega, h3, h4⟩
      · rintro i env m hi ⟨row, left, x4, x5, rfl, h1, h2, h3, h4⟩
        have hi' : i < 60 := hi
        unfold nLa
        walk_at "wk"
        rw [eqV_int, wp_lift]
        dsimp only
        by_cases c2 : (left == 0) = true
        · rw [if_pos c2]
          exact ⟨⟨row, _, _, _, _, rfl, h1, by omega, h3⟩, h4⟩
        · rw [if_neg c2]
          refine ⟨chk_loc h1, ?_⟩
          rw [intV_int, wp_lift, modV_int (by decide), wp_lift, append_int h1 (by omega), wp_lift, fdivV_int (by decide) (by decide), wp_lift]
          refine ⟨row ++ [left % 997], _, _, _, rfl, listAt_set h1, by rw [List.length_append, List.length_singleton]; omega, h3.set (Nat.le_refl _), ?_⟩
          rw [listAt_set_ne (by omega)]
          exact h4
      · rintro env m ⟨row, left, x4, x5, rfl, h1, h2, h3, h4⟩
        have h2' : row.length ≤ 60 * k + 60 := h2
        exact ⟨⟨row, _, _, _, _, rfl, h1, by omega, h3⟩, h4⟩
    · rw [decide_eq_false c1]
      simp only [Bool.false_eq_true,
              if_false]
      refine ⟨⟨by decide, by decide⟩, ?_⟩
      refine ws_range (Int.toNat 4) (fun i env m => ∃ (row : List Int) (x3 x4 x5 : Option W), env = [some (.rol (ns.map W.int)), some (.loc mem.length), some (.int c), x3, x4, x5] ∧ listAt m mem.length = some (row.map W.int) ∧ row.length ≤ 60 * k + i ∧ Kq mem m ∧ listAt m (mem.length + 1) = some (cs.map W.int)) ?_ ?_ ?_
      · exact ⟨row, _, _, _, rfl, h1, by omega, h3, h4⟩
      · rintro i env m hi ⟨row, x3, x4, x5, rfl, h1, h2, h3, h4⟩
        have hi' : i < 4 := hi
        unfold nLb
        walk_at "wk"
        rw [mulV_int (by decide) (by decide), wp_lift, mulV_int (by decide) (by decide), wp_lift, addV_int, wp_lift, addV_int, wp_lift, intV_int, wp_lift, modV_int (by decide), wp_lift]
        refine ⟨chk_loc h1, ?_⟩
        rw [mulV_int (by decide) (by decide), wp_lift, addV_int, wp_lift, intV_int, wp_lift, modV_int (by decide), wp_lift, append_int h1 (by omega), wp_lift]
        refine ⟨_, _, _, _, rfl, listAt_set h1, by rw [List.length_append, List.length_singleton]; omega, h3.set (Nat.le_refl _), ?_⟩
        rw [listAt_set_ne (by omega)]
        exact h4
      · rintro env m ⟨row, x3, x4, x5, rfl, h1, h2, h3, h4⟩
        have h2' : row.length ≤ 60 * k + 4 := h2
        exact ⟨⟨row, _, _, _, _, rfl, h1, by omega, h3⟩, h4⟩
  · rintro env m ⟨⟨row, x2, x3, x4, x5, rfl, h1, h2, h3⟩, h4⟩
    rw [List.length_map] at h2
    walk_at "wk"
    rw [len_loc h1, wp_lift, List.length_map, eqV_int, wp_lift]
    dsimp only
    by_cases c : ((row.length : Int) == 0) = true
    · rw [if_pos c]
      refine ⟨chk_loc h1, ?_⟩
      rw [append_int h1 (by omega), wp_lift]
      exact h (row ++ [0]) _ (by simp) (listAt_set h1) (h3.set (Nat.le_refl _))
    · rw [if_neg c]
      refine h row m ?_ h1 h3
      have : row.length ≠ 0 := fun z => c (by rw [z]; rfl)
      omega
end Sh
set_option linter.all false
set_option maxRecDepth 100000
set_option
        maxHeartbeats 4000000
/-! MK: plain values, and the laws' own looks at them. -/
namespace Sh
open PySem PySem.Spec
        PyProof.Rows L2
local macro_rules | `(tactic| walk_at "wk") => `(tactic| try simp only [wr_run, ws_seq, ws_ret, ws_retN, ws_next, ws_brk, ws_ct, ws_drop, ws_set, ws_if, ws_asg, ws_par, ws_aug, ws_for, wp_ok, wp_bad, wp_pure, wp_bind, wp_lift, wp_lift0, wp_var, wp_c, wp_bin, wp_un, wp_callN, wp_callF, wp_nil, wp_cons, wp_tup, wp_lst, wp_andV, wp_orV, wp_notV, wp_ifE, wp_tB, wp_andB, wp_orB, wp_notB, wp_chain, wp_optN, wp_optS, wp_slice, wp_meth, wp_lr, wp_lc, wp_seqI, wp_rng1, wg_name, wg_nil, wg_cons, wg_seq, wg_sub, startE, List.map_cons, List.map_nil, List.length_cons, List.length_nil, List.getElem?_cons_zero, List.getElem?_cons_succ, List.cons_append, List.nil_append, List.set_cons_zero, List.set_cons_succ, List.replicate_succ, List.replicate_zero, Nat.reduceSub, Nat.reduceAdd, isB, if_true, if_false, Bool.false_eq_true, Bool.not_true, Bool.not_false, reduceIte, yesB])
/-- plain values of fewer than d levels -/
def pln : Nat → W → Prop
  | 0, _ => False
  | d + 1, x => match x with
    | .tup xs => xs.length ≤ 1000 ∧ ∀ y ∈ xs, pln d y
    | .non => True
    | .bl _ => True
    | .int _ => True
    | .str z => sOk z = true
    | _ => False
theorem pln.mono {d e : Nat} {x : W} (h : pln d x) (l : d ≤ e) : pln e x := by
  induction d generalizing e x with
  | zero => exact h.elim
  | succ d ih =>
    cases e with
    | zero => omega
    | succ e =>
      cases x with
      | tup xs => exact ⟨h.1, fun y hy => ih (h.2 y hy) (by omega)⟩
      | _ => exact h
theorem isi_of {x : W} {a n : String} {r : Bool} {m : Mem} (h : tyName m x = some a) (k : kind a n = some r) : isiV [x, .ty n] m = some (.bl r, m) := by
  unfold isiV
  dsimp only
  rw [h]
  dsimp only [Option.bind]
  rw [k]
  rfl
theorem kd_tt : kind "tuple" "tuple" = some true := by decide +kernel
theorem kd_tb : kind "tuple" "bool" = some false := by decide +kernel
theorem kd_ti : kind "tuple" "int" = some false := by decide +kernel
theorem kd_ts : kind "tuple" "str" = some false := by decide +kernel
theorem kd_tl : kind "tuple" "list" = some false := by decide +kernel
theorem kd_lt : kind "list" "tuple" = some false := by decide +kernel
theorem kd_lb : kind "list" "bool" = some false := by decide +kernel
theorem kd_li : kind "list" "int" = some false := by decide +kernel
theorem kd_ls : kind "list" "str" = some false := by decide +kernel
theorem kd_ll : kind "list" "list" = some true := by decide +kernel
theorem kd_bt : kind "bool" "tuple" = some false := by decide +kernel
theorem kd_bb : kind "bool" "bool" = some true := by decide +kernel
theorem kd_bi : kind "bool" "int" = some true := by decide +kernel
theorem kd_bs : kind "bool" "str" = some false := by decide +kernel
theorem kd_bL : kind "bool" "list" = some false := by decide +kernel
theorem kd_it : kind "int" "tuple" = some false := by decide +kernel
theorem kd_ib : kind "int" "bool" = some false := by decide +kernel
theorem kd_ii : kind "int" "int" = some true := by decide +kernel
theorem kd_is : kind "int" "str" = some false := by decide +kernel
theorem kd_il : kind "int" "list" = some false := by decide +kernel
theorem kd_st : kind "str" "tuple" = some false := by decide +kernel
theorem kd_sb : kind "str" "bool" = some false := by decide +kernel
theorem kd_si : kind "str" "int" = some false := by decide +kernel
theorem kd_ss : kind "str" "str" = some true := by decide +kernel
theorem kd_sl : kind "str" "list" = some false := by decide +kernel
theorem kd_nt : kind "NoneType" "tuple" = some false := by decide +kernel
theorem kd_nb : kind "NoneType" "bool" = some false := by decide +kernel
theorem kd_ni : kind "NoneType" "int" = some false := by decide +kernel
theorem kd_ns : kind "NoneType" "str" = some false := by decide +kernel
theorem kd_nl : kind "NoneType" "list" = some false := by decide +kernel
section
variable {m : Mem} {xs : List W} {z : Str} {i : Int} {b c : Bool}
theorem isT_tup : isiV [.tup xs, .ty "tuple"] m = some (.bl true, m) := isi_of rfl kd_tt
theorem isB_tup : isiV [.tup xs, .ty "bool"] m = some (.bl false, m) := isi_of rfl kd_tb
theorem isI_tup : isiV [.tup xs, .ty "int"] m = some (.bl false, m) := isi_of rfl kd_ti
theorem isS_tup : isiV [.tup xs, .ty "str"] m = some (.bl false, m) := isi_of rfl kd_ts
theorem isL_tup : isiV [.tup xs, .ty "list"] m = some (.bl false, m) := isi_of rfl kd_tl
theorem isT_bl : isiV [.bl b, .ty "tuple"] m = some (.bl false, m) := isi_of rfl kd_bt
theorem isB_bl : isiV [.bl b, .ty "bool"] m = some (.bl true, m) := isi_of rfl kd_bb
theorem isI_bl : isiV [.bl b, .ty "int"] m = some (.bl true, m) := isi_of rfl kd_bi
theorem isS_bl : isiV [.bl b, .ty "str"] m = some (.bl false, m) := isi_of rfl kd_bs
theorem isL_bl : isiV [.bl b, .ty "list"] m = some (.bl false, m) := isi_of rfl kd_bL
theorem isT_int : isiV [.int i, .ty "tuple"] m = some (.bl false, m) := isi_of rfl kd_it
theorem isB_int : isiV [.int i, .ty "bool"] m = some (.bl false, m) := isi_of rfl kd_ib
theorem isI_int : isiV [.int i, .ty "int"] m = some (.bl true, m) := isi_of rfl kd_ii
theorem isS_int : isiV [.int i, .ty "str"] m = some (.bl false, m) := isi_of rfl kd_is
theorem isL_int : isiV [.int i, .ty "list"] m = some (.bl false, m) := isi_of rfl kd_il
theorem isT_str : isiV [.str z, .ty "tuple"] m = some (.bl false, m) := isi_of rfl kd_st
theorem isB_str : isiV [.str z, .ty "bool"] m = some (.bl false, m) := isi_of rfl kd_sb
theorem isI_str : isiV [.str z, .ty "int"] m = some (.bl false, m) := isi_of rfl kd_si
theorem isS_str : isiV [.str z, .ty "str"] m = some (.bl true, m) := isi_of rfl kd_ss
theorem isL_str : isiV [.str z, .ty "list"] m = some (.bl false, m) := isi_of rfl kd_sl
theorem isT_non : isiV [.non, .ty "tuple"] m = some (.bl false, m) := isi_of rfl kd_nt
theorem isB_non : isiV [.non, .ty "bool"] m = some (.bl false, m) := isi_of rfl kd_nb
theorem isI_non : isiV [.non, .ty "int"] m = some (.bl false, m) := isi_of rfl kd_ni
theorem isS_non : isiV [.non, .ty "str"] m = some (.bl false, m) := isi_of rfl kd_ns
theorem isL_non : isiV [.non, .ty "list"] m = some (.bl false, m) := isi_of rfl kd_nl
theorem isV_tup : isV (.tup xs) .non m = some (.bl false, m) := rfl
theorem isV_bl : isV (.bl b) .non m = some (.bl false, m) := rfl
theorem isV_int : isV (.int i) .non m = some (.bl false, m) := rfl
theorem isV_str : isV (.str z) .non m = some (.bl false, m) := rfl
theorem isV_non : isV .non .non m = some (.bl true, m) := rfl
theorem len_tup : lenV [.tup xs] m = some (.int xs.length, m) := rfl
theorem tup_tup : tupleV [.tup xs] m = some (.tup xs, m) := rfl
theorem sh_bl : SeqAt.shaped (.bool b) = true := by
  show (PyData.canLay0 (.bool b) && decide (PyData.depth (.bool b) ≤ 64)) = true
  simp [PyData.canLay0, PyData.depth]
theorem eqV_bl : eqV (.bl b) (.bl c) m = some (.bl (b == c), m) := by
  unfold eqV eqvM
  show Option.map (fun b => (W.bl b, m)) (if (SeqAt.shaped (.bool b) && SeqAt.shaped (.bool c)) = true then some (PyData.eqv (.bool b) (.bool c)) else none) = _
  rw [sh_bl, sh_bl]
  cases b <;> cases c <;> rfl
theorem ne_int {i j : Int} : neV (.int i) (.int j) m = some (.bl (!(i == j)), m) := by
  have h := eqV_int (a := i) (b := j) (m := m)
  unfold eqV at h
  unfold neV
  cases e : eqvM m (.int i) (.int j) with
  | none => rw [e]
          at h; cases h
  | some x => rw [e] at h; cases h; rfl
end
/-- as wk, and the looks at kinds -/
local macro_rules | `(tactic| walk_at "wi") => `(tactic| simp only [isT_tup, isB_tup, isI_tup, isS_tup, isL_tup, isT_bl, isB_bl, isI_bl, isS_bl, isL_bl, isT_int, isB_int, isI_int, isS_int, isL_int, isT_str, isB_str, isI_str, isS_str, isL_str, isT_non, isB_non, isI_non, isS_non, isL_non, isV_tup, isV_bl, isV_int, isV_str, isV_non, len_tup, tup_tup, eqV_bl, eqV_int, ne_int, addV_int, subV_int, gtV_int, ltV_int, leV_int, geV_int, intV_int, wp_lift, Bool.or_true, Bool.true_or, Bool.or_false, Bool.false_or, Bool.and_true, Bool.true_and, Bool.false_and, Bool.and_false, Bool.not_true, Bool.not_false, Bool.false_eq_true, if_true, if_false, reduceIte, beq_self_eq_true])
def F_so : Nat → Fn
  | 0 => fun _ _ => .bad
  | d + 1 => runB 3 (b__law_so (F_so d))
theorem ixV_tup {xs : List W} {i : Nat} {x : W} {m : Mem} (h : xs[i]? = some x) : ixV (.tup xs) (.int (i : Nat)) m = some (x, m) := by
  have hl := (List.getElem?_eq_some_iff.mp h).1
  unfold ixV
  dsimp only
  unfold atI
  rw [ixN_at (by omega) (by omega), Int.toNat_natCast]
  show (xs[i]?).map _ = _
  rw [h]
  rfl
theorem so_refl : ∀ (d : Nat) (x : W) (m : Mem) (Q : W → Mem → Prop) (ex : Exc → Mem → Prop), pln d x → Q (.bl true) m → (F_so d [x, x] m).Post Q ex := by
  intro d
  induction d with
  | zero => intro x m Q ex h; exact h.elim
  | succ d ih =>
    intro x m Q ex h q
    show (runB 3 (b__law_so (F_so d)) [x, x] m).Post Q ex
    refine Eq.mpr wr_run ?_
    delta b__law_so
    walk_at "wk"
    cases x with
    | tup xs =>
      walk_at "wi"
      refine ⟨⟨by omega, by have := h.1; omega⟩, ?_⟩
      rw [Int.toNat_natCast]
      refine ws_range xs.length (fun k env m' => m' = m ∧ ∃ x2, env = [some (.tup xs), some (.tup xs), x2]) ⟨rfl, _, rfl⟩ ?_ ?_
      · rintro k env m' hk ⟨rfl, x2, rfl⟩
        have e := List.getElem?_eq_getElem hk
        walk_at "wk"
        rw [Int.zero_add, ixV_tup e, wp_lift, ixV_tup e, wp_lift]
        refine ih _ _ _ _ (h.2 _ (List.getElem_mem hk)) ?_
        walk_at "wk"
        exact ⟨trivial, _, rfl⟩
      · rintro env m' ⟨rfl, x2, rfl⟩
        exact q
    | non => walk_at "wi"; exact q
    | bl b => walk_at "wi"; exact q
    | int i => walk_at "wi"; exact q
    | str z => walk_at "wi"; rw [eqV_str h h, wp_lift]; walk_at "wi"; exact q
    | _ => exact h.elim
theorem so_bool {d : Nat} {b c : Bool} {m : Mem} {Q : W → Mem → Prop} {ex : Exc → Mem → Prop} (q : Q (.bl (b == c)) m) : (F_so (d + 1) [.bl b, .bl c] m).Post Q ex := by
  show (runB 3 (b__law_so (F_so d)) [.bl b, .bl c] m).Post Q ex
  refine Eq.mpr wr_run ?_
  delta b__law_so
  walk_at "wk"
  walk_at "wi"
  exact q
end Sh
set_option linter.all false
set_option maxRecDepth 100000
set_option
        maxHeartbeats 4000000
/-! ML: values as they are handed in: some tuples as lists. -/
namespace Sh
open PySem PySem.Spec
        PyProof.Rows L2
local macro_rules | `(tactic| walk_at "wk") => `(tactic| try simp only [wr_run, ws_seq, ws_ret, ws_retN, ws_next, ws_brk, ws_ct, ws_drop, ws_set, ws_if, ws_asg, ws_par, ws_aug, ws_for, wp_ok, wp_bad, wp_pure, wp_bind, wp_lift, wp_lift0, wp_var, wp_c, wp_bin, wp_un, wp_callN, wp_callF, wp_nil, wp_cons, wp_tup, wp_lst, wp_andV, wp_orV, wp_notV, wp_ifE, wp_tB, wp_andB, wp_orB, wp_notB, wp_chain, wp_optN, wp_optS, wp_slice, wp_meth, wp_lr, wp_lc, wp_seqI, wp_rng1, wg_name, wg_nil, wg_cons, wg_seq, wg_sub, startE, List.map_cons, List.map_nil, List.length_cons, List.length_nil, List.getElem?_cons_zero, List.getElem?_cons_succ, List.cons_append, List.nil_append, List.set_cons_zero, List.set_cons_succ, List.replicate_succ, List.replicate_zero, Nat.reduceSub, Nat.reduceAdd, isB, if_true, if_false, Bool.false_eq_true, Bool.not_true, Bool.not_false, reduceIte, yesB])
local macro_rules | `(tactic| walk_at "wi") => `(tactic| simp only [isT_tup, isB_tup, isI_tup, isS_tup, isL_tup, isT_bl, isB_bl, isI_bl, isS_bl, isL_bl, isT_int, isB_int, isI_int, isS_int, isL_int, isT_str, isB_str, isI_str, isS_str, isL_str, isT_non, isB_non, isI_non, isS_non, isL_non, isV_tup, isV_bl, isV_int, isV_str, isV_non, len_tup, tup_tup, eqV_bl, eqV_int, ne_int, addV_int, subV_int, gtV_int, ltV_int, leV_int, geV_int, intV_int, wp_lift, Bool.or_true, Bool.true_or, Bool.or_false, Bool.false_or, Bool.and_true, Bool.true_and, Bool.false_and, Bool.and_false, Bool.not_true, Bool.not_false, Bool.false_eq_true, if_true, if_false, reduceIte, beq_self_eq_true])
def itm (B : Nat) (m : Mem) : W → Option (List W)
  | .tup ws => some ws
  | .loc i => if B ≤ i then listAt m i else none
  | _ => none
/-- w is x, some of its tuples lists, at B and behind -/
def hdn (B : Nat) : Nat → Mem → W → W → Prop
  | 0, _, _, _ => False
  | d + 1, m, w, x => match x with
    | .tup xs => xs.length ≤ 1000 ∧ ∃ ws, itm B m w = some ws ∧ ws.length = xs.length ∧ ∀ (k : Nat) (a b : W), ws[k]? = some a → xs[k]? = some b → hdn B d m a b
    | .non => w = .non
    | .bl b => w = .bl b
    | .int i => w = .int i
    | .str z => w = .str z ∧ sOk z = true
    | _ => False
theorem itm_keep {B C : Nat} {m m' : Mem} {w : W} {ws : List W} (h : itm B m w = some ws) (l : C ≤ B) (k : ∀ i xs, B ≤ i → listAt m i = some xs → listAt m' i = some xs) : itm C m' w = some ws := by
  cases w with
  | tup => exact h
  | loc i =>
    have h1 : (if B ≤ i then listAt m i else none) = some ws := h
    show (if C ≤ i then listAt m' i else none) = some ws
    by_cases hb : B ≤ i
    · rw [if_pos hb] at h1
      rw [if_pos (Nat.le_trans l hb)]
      exact k i ws hb h1
    · rw [if_neg hb] at h1; cases h1
  | _ => cases h
theorem hdn.keep {B C : Nat} {m m' : Mem} (l : C ≤ B) (k : ∀ i xs, B ≤ i → listAt m i = some xs → listAt m' i = some xs) : ∀ {d : Nat} {w x : W}, hdn B d m w x → hdn C d m' w x := by
  intro d
  induction d with
  | zero => intro w x h; exact h.elim
  | succ d ih =>
    intro w x h
    cases x with
    | tup xs =>
      obtain ⟨h1, ws, h2, h3, h4⟩ := h
      exact ⟨h1, ws, itm_keep h2 l k, h3, fun j a b e1 e2 => ih (h4 j a b e1 e2)⟩
    | _ => exact h
theorem hdn.kp {B s d : Nat} {m m' : Mem} {w x : W} (h : hdn B d m w x) (hs : s < B) (k : Kp s m m') : hdn B d m' w x := h.keep (Nat.le_refl _) fun i xs hi e => k.list (by omega) e
theorem hdn.kq {B d : Nat} {m m' : Mem} {w x : W} (h : hdn B d m w x) (k : Kq m m') : hdn B d m' w x := h.keep (Nat.le_refl _) fun i xs hi e => k.list e
theorem hdn.low {B C d : Nat} {m : Mem} {w x : W} (h : hdn B d m w x) (l : C ≤ B) : hdn C d m w x := h.keep l fun i xs hi e => e
theorem hdn_refl {B : Nat} {m : Mem} : ∀ {d : Nat} {x : W}, pln d x → hdn B d m x x := by
  intro d
  induction d with
  | zero => intro x h; exact h.elim
  | succ d ih =>
    intro x h
    cases x with
    | tup xs => exact ⟨h.1, xs, rfl, rfl, fun k a b e1 e2 => by rw [e1] at e2; cases e2; exact ih (h.2 a (List.mem_of_getElem? e1))⟩
    | str z => exact ⟨rfl, h⟩
    | non => rfl
    | bl b => rfl
    | int i => rfl
    | _ => exact h.elim
theorem walk_itm {B : Nat} {m : Mem} {w : W} {ws : List W} (h : itm B m w = some ws) : ∃ wk, walkOf w m = some wk ∧ wk.k = ws.length ∧ ∀ (m' : Mem) (k : Nat), (∀ i xs, B ≤ i → listAt m i = some xs → listAt m' i = some xs) → wk.nx k m' = some ws[k]? := by
  cases w with
  | tup xs => cases h; exact ⟨_, rfl, rfl, fun _ _ _ => rfl⟩
  | loc i =>
    have h1 : (if B ≤ i then listAt m i else none) = some ws := h
    by_cases hb : B ≤ i
    · rw [if_pos hb] at h1
      exact ⟨_, walk_loc h1, rfl, fun m' k hk => locN_eq (hk i ws hb h1)⟩
    · rw [if_neg hb] at h1; cases h1
  | _ => cases h
theorem ty_loc {m : Mem} {i : Nat} {ws : List W} (h : listAt m i = some ws) : tyName m (.loc i) = some "list" := by
  unfold tyName
  dsimp only
  rw [listAt_some h]
theorem isL_loc {m : Mem} {i : Nat} {ws : List W} (h : listAt m i = some ws) : isiV [.loc i, .ty "list"] m = some (.bl true, m) := isi_of (ty_loc h) kd_ll
theorem isT_loc {m : Mem} {i : Nat} {ws : List W} (h : listAt m i = some ws) : isiV [.loc i, .ty "tuple"] m = some (.bl false, m) := isi_of (ty_loc h) kd_lt
theorem isS_loc {m : Mem} {i : Nat} {ws : List W} (h : listAt m i = some ws) : isiV [.loc i, .ty "str"] m = some (.bl false, m) := isi_of (ty_loc h) kd_ls
theorem isI_loc {m : Mem} {i : Nat} {ws : List W} (h : listAt m i = some ws) : isiV [.loc i, .ty "int"] m = some (.bl false, m) := isi_of (ty_loc h) kd_li
theorem isB_loc {m : Mem} {i : Nat} {ws : List W} (h : listAt m i = some ws) : isiV [.loc i, .ty "bool"] m = some (.bl false, m) := isi_of (ty_loc h) kd_lb
/-! ### listed -/
def F_listed : Nat → Fn
  | 0 => fun _ _ => .bad
  | d + 1 => runB 2 (b__law_listed (F_listed d))
theorem listed_post : ∀ (d : Nat) (x : W) (m : Mem) (Q : W → Mem → Prop) (ex : Exc → Mem → Prop), pln d x → (∀ w m', hdn m.length d m' w x → Kq m m' → Q w m') → (F_listed d [x] m).Post Q ex := by
  intro d
  induction d with
  | zero => intro x m Q ex h; exact h.elim
  | succ d ih =>
    intro x m Q ex h q
    have hsz : sizeLine = 16777216 := sizeLine_eq
    show (runB 2 (b__law_listed (F_listed d)) [x] m).Post Q ex
    refine Eq.mpr wr_run ?_
    delta b__law_listed
    walk_at "wk"
    cases x with
    | tup xs =>
      walk_at "wi"
      show match lcLoop (fun k _ => some xs[k]?) _ _ _ _ _ _ xs.length _ _ with | some m' => _ | none => _
      obtain ⟨m', e, ws, h1, h2, h3, h4⟩ := lc_loop (nx := fun k _ => some xs[k]?) (g := nameG 1) (t := yesB) (e := callF (F_listed d) (consA (varE 1) nilA)) (vs := [1]) (D := m.length) (env := [some (.tup xs), none])
        (Q := fun m' => ∃ ws : List W, ws.length = xs.length ∧ listAt m' m.length = some ws ∧ Kq m m' ∧ ∀ (j : Nat) (a b : W), ws[j]? = some a → xs[j]? = some b → hdn (m.length + 1) d m' a b) xs
        (fun k m' => ∃ ws : List W, ws.length = k ∧ listAt m' m.length = some ws ∧ Kq m m' ∧ ∀ (j : Nat) (a b : W), ws[j]? = some a → xs[j]? = some b → hdn (m.length + 1) d m' a b)
        (fun _ _ _ _ => rfl) (mem := m ++ [.lst []]) ⟨[], rfl, listAt_new, Kq.app, fun j a b e => by cases e⟩
        (fun k x m2 hx ⟨ws, h1, h2, h3, h4⟩ => by
          have hk : k < 1000 := by have := (List.getElem?_eq_some_iff.mp hx).1; have := h.1; omega
          walk_at "wk"
          refine ih x m2 _ _ (h.2 x (List.mem_of_getElem? hx)) fun w m3 h5 h6 => ?_
          have hD := listAt_lt h2
          have h2' := h6.list h2
          refine ⟨ws, h2', by omega, ws ++ [w], by rw [List.length_append, h1]; rfl, listAt_set h2', (h3.trans h6).set (Nat.le_refl _), fun j a b e1 e2 => ?_⟩
          have keep : ∀ i ys, m.length + 1 ≤ i → listAt m3 i = some ys → listAt (m3.set m.length (Cell.lst (ws ++ [w]))) i = some ys := fun i ys hi e => by rw [listAt_set_ne (by omega)]; exact e
          by_cases hj : j < ws.length
          · rw [List.getElem?_append_left hj] at e1
            exact ((h4 j a b e1 e2).kq h6).keep (Nat.le_refl _) keep
          · have hj2 : j = k := by
              have := (List.getElem?_eq_some_iff.mp e1).1
              rw [List.length_append, List.length_singleton] at this
              omega
            subst hj2
            rw [List.getElem?_append_right (by omega), h1, Nat.sub_self] at e1
            cases e1
            rw [hx] at e2
            cases e2
            exact h5.keep (by omega) fun i ys hi e => keep i ys (by omega) e)
        (fun m' j => j)
      rw [e]
      refine q _ _ ⟨h.1, ws, ?_, h1, fun j a b e1 e2 => (h4 j a b e1 e2).low (by omega)⟩ h3
      show (if m.length ≤ m.length then listAt m' m.length else none) = some ws
      rw [if_pos (Nat.le_refl _)]
      exact h2
    | non => walk_at "wi"; exact q _ _ (hdn_refl h) Kq.refl
    | bl b => walk_at "wi"; exact q _ _ (hdn_refl h) Kq.refl
    | int i => walk_at "wi"; exact q _ _ (hdn_refl h) Kq.refl
    | str z => walk_at "wi"; exact q _ _ (hdn_refl h) Kq.refl
    | _ => exact h.elim
/-! ### either -/
def F_either : Nat → Fn
  | 0 => fun _ _ => .bad
  | d + 1 => runB 5 (b__law_either (F_either d) F_take)
theorem either_post {row : List Int} {r s : Nat} : ∀ (d : Nat) (x : W) (m : Mem) (Q : W → Mem → Prop) (ex : Exc → Mem → Prop), pln d x → Dr r s row m → (∀ w m', hdn m.length d m' w x → Dr r s row m' → Kp s m m' → Q w m') → (F_either d [.loc r, .loc s, x] m).Post Q ex := by
  intro d
  induction d with
  | zero => intro x m Q ex h; exact h.elim
  | succ d ih =>
    intro x m Q ex h dr q
    have hsz : sizeLine = 16777216 := sizeLine_eq
    have hs := dr.s_lt
    have hr := listAt_lt dr.hrow
    show (runB 5 (b__law_either (F_either d) F_take) [.loc r, .loc s, x] m).Post Q ex
    refine Eq.mpr wr_run ?_
    delta b__law_either
    walk_at "wk"
    cases x with
    | tup xs =>
      walk_at "wi"
      show match lcLoop (fun k _ => some xs[k]?) _ _ _ _ _ _ xs.length _ _ with | some m' => _ | none => _
      obtain ⟨m', e, ws, h1, h2, h3, h5, h4⟩ := lc_loop (nx := fun k _ => some xs[k]?) (g := nameG 4) (t := yesB) (e := callF (F_either d) (consA (varE 0) (consA (varE 1) (consA (varE 4) nilA)))) (vs := [4]) (D := m.length) (env := [some (.loc r), some (.loc s), some (.tup xs), none, none])
        (Q := fun m' => ∃ ws : List W, ws.length = xs.length ∧ listAt m' m.length = some ws ∧ Kp s m m' ∧ Dr r s row m' ∧ ∀ (j : Nat) (a b : W), ws[j]? = some a → xs[j]? = some b → hdn (m.length + 1) d m' a b) xs
        (fun k m' => ∃ ws : List W, ws.length = k ∧ listAt m' m.length = some ws ∧ Kp s m m' ∧ Dr r s row m' ∧ ∀ (j : Nat) (a b : W), ws[j]? = some a → xs[j]? = some b → hdn (m.length + 1) d m' a b)
        (fun _ _ _ _ => rfl) (mem := m ++ [.lst []]) ⟨[], rfl, listAt_new, Kp.app, dr.app, fun j a b e => by cases e⟩
        (fun k x m2 hx ⟨ws, h1, h2, h3, h7, h4⟩ => by
          have hk : k < 1000 := by have := (List.getElem?_eq_some_iff.mp hx).1; have := h.1; omega
          walk_at "wk"
          refine ih x m2 _ _ (h.2 x (List.mem_of_getElem? hx)) h7 fun w m3 h5 h8 h6 => ?_
          have hD := listAt_lt h2
          have h2' := h6.list (by omega) h2
          refine ⟨ws, h2', by omega, ws ++ [w], by rw [List.length_append, h1]; rfl, listAt_set h2', (h3.trans h6).set_new (Nat.le_refl _), h8.set (by omega) (by omega), fun j a b e1 e2 => ?_⟩
          have keep : ∀ i ys, m.length + 1 ≤ i → listAt m3 i = some ys → listAt (m3.set m.length (Cell.lst (ws ++ [w]))) i = some ys := fun i ys hi e => by rw [listAt_set_ne (by omega)]; exact e
          by_cases hj : j < ws.length
          · rw [List.getElem?_append_left hj] at e1
            exact ((h4 j a b e1 e2).kp (by omega) h6).keep (Nat.le_refl _) keep
          · have hj2 : j = k := by
              have := (List.getElem?_eq_some_iff.mp e1).1
              rw [List.length_append, List.length_singleton] at this
              omega
            subst hj2
            rw [List.getElem?_append_right (by omega), h1, Nat.sub_self] at e1
            cases e1
            rw [hx] at e2
            cases e2
            exact h5.keep (by omega) fun i ys hi e => keep i ys (by omega) e)
        (fun m' j => j)
      rw [e]
      dsimp only
      refine take_post h5 (by decide) fun u m2 u0 u1 d2 k2 l2 => ?_
      have h2' := k2.list (by omega) h2
      have key : ∀ w, itm m.length m2 w = some ws → hdn m.length (d + 1) m2 w (.tup xs) := fun w hw => ⟨h.1, ws, hw, h1, fun j a b e1 e2 => ((h4 j a b e1 e2).kp (by omega) k2).low (by omega)⟩
      rw [eqV_int, wp_lift]
      dsimp only
      by_cases c : (u == 0) = true
      · rw [if_pos c]
        refine q _ _ (key _ ?_) d2 (h3.trans k2)
        show (if m.length ≤ m.length then listAt m2 m.length else none) = some ws
        rw [if_pos (Nat.le_refl _)]
        exact h2'
      · rw [if_neg c]
        rw [tupleV_loc h2', wp_lift]
        exact q _ _ (key _ rfl) d2 (h3.trans k2)
    | non => walk_at "wi"; exact q _ _ (hdn_refl h) dr Kp.refl
    | bl b => walk_at "wi"; exact q _ _ (hdn_refl h) dr Kp.refl
    | int i => walk_at "wi"; exact q _ _ (hdn_refl h) dr Kp.refl
    | str z => walk_at "wi"; exact q _ _ (hdn_refl h) dr Kp.refl
    | _ => exact h.elim
/-! ### handed -/
def F_handed (d : Nat) : Fn := runB 4 (b__law_handed F_take (F_either d) (F_listed d))
theorem handed_post {row : List Int} {r s d : Nat} {x : W} {m : Mem} {Q : W → Mem → Prop} {ex : Exc → Mem → Prop} (h : pln d x) (dr : Dr r s row m) (q : ∀ w m', hdn m.length d m' w x → Dr r s row m' → Kp s m m' → Q w m') : (F_handed d [.loc r, .loc s, x] m).Post Q ex := by
  unfold F_handed
  refine Eq.mpr wr_run ?_
  delta b__law_handed
  walk_at "wk"
  refine take_post dr (by decide) fun u m1 u0 u1 d1 k1 l1 => ?_
  rw [eqV_int, wp_lift]
  dsimp only
  by_cases c : (u == 2) = true
  · rw [if_pos c]
    refine either_post d x m1 _ _ h d1 fun w m' h1 h2 h3 => q w m' ?_ h2 (k1.trans h3)
    rw [← l1]
    exact h1
  · rw [if_neg c, eqV_int, wp_lift]
    dsimp only
    by_cases c : (u == 0) = true
    · rw [if_pos c]
      refine listed_post d x m1 _ _ h fun w m' h1 h2 => q w m' ?_ (h2.dr d1) (k1.trans h2.kp)
      rw [← l1]
      exact h1
    · rw [if_neg c]
      exact q x m1 (hdn_refl h) d1 k1
/-! ### tupled -/
def F_tupled : Nat → Fn
  | 0 => fun _ _ => .bad
  | d + 1 => runB 2 (b__law_tupled (F_tupled d))
theorem tupled_post {B : Nat} : ∀ (d : Nat) (x w : W) (m : Mem) (Q : W → Mem → Prop) (ex : Exc → Mem → Prop), hdn B d m w x → (∀ m', Kq m m' → Q x m') → (F_tupled d [w] m).Post Q ex := by
  intro d
  induction d with
  | zero => intro x w m Q ex h; exact h.elim
  | succ d ih =>
    intro x w m Q ex h q
    have hsz : sizeLine = 16777216 := sizeLine_eq
    show (runB 2 (b__law_tupled (F_tupled d)) [w] m).Post Q ex
    refine Eq.mpr wr_run ?_
    delta b__law_tupled
    walk_at "wk"
    cases x with
    | tup xs =>
      obtain ⟨h0, ws, h1, h2, h3⟩ := h
      obtain ⟨wk, e1, e2, e3⟩ := walk_itm h1
      have key : (match walkOf w m with
          | some wk => match lcLoop wk.nx (nameG 1) yesB (callF (F_tupled d) (consA (varE 1) nilA)) [1] m.length [some w, none] wk.k 0 (m ++ [.lst []]) with
            | some m' => (lift (tupleV [.loc m.length] m')).Post Q fun x m => ex x m
            | none => False
          | none => False) := by
        rw [e1]
        dsimp only
        rw [e2, h2]
        obtain ⟨m', e, h4, h5⟩ := lc_loop (nx := wk.nx) (g := nameG 1) (t := yesB) (e := callF (F_tupled d) (consA (varE 1) nilA)) (vs := [1]) (D := m.length) (env := [some w, none])
          (Q := fun m' => listAt m' m.length = some xs ∧ Kq m m') ws
          (fun k m' => listAt m' m.length = some (xs.take k) ∧ Kq m m')
          (fun k m' _ j => e3 m' k fun i ys _ e => j.2.list e) (mem := m ++ [.lst []]) ⟨listAt_new, Kq.app⟩
          (fun k a m2 hx ⟨h4, h5⟩ => by
            have hk : k < xs.length := by have := (List.getElem?_eq_some_iff.mp hx).1; omega
            have hb := List.getElem?_eq_getElem hk
            walk_at "wk"
            refine ih _ a m2 _ _ ((h3 k a _ hx hb).kq h5) fun m3 h6 => ?_
            have h4' := h6.list h4
            refine ⟨_, h4', by rw [List.length_take]; omega, ?_, (h5.trans h6).set (Nat.le_refl _)⟩
            rw [listAt_set h4', take_snoc hb])
          (fun m' j => by rw [h2, List.take_length] at j; exact j)
        rw [h2] at e
        rw [e]
        dsimp only
        rw [tupleV_loc h4, wp_lift]
        exact q m' h5
      cases w with
      | tup ys => walk_at "wi"; exact key
      | loc i =>
        have hi : listAt m i = some ws := by
          have h1' : (if B ≤ i then listAt m i else none) = some ws := h1
          by_cases hb : B ≤ i
          · rw [if_pos hb] at h1'; exact h1'
          · rw [if_neg hb] at h1'; cases h1'
        rw [isL_loc hi]
        walk_at "wi"
        exact key
      | _ => cases h1
    | non => cases h; walk_at "wi"; exact q _ Kq.refl
    | bl b => cases h; walk_at "wi"; exact q _ Kq.refl
    | int i => cases h; walk_at "wi"; exact q _ Kq.refl
    | str z => cases h.1; walk_at "wi"; exact q _ Kq.refl
    | _ => exact h.elim
end Sh
set_option linter.all false
set_option maxRecDepth 100000
set_option
        maxHeartbeats 4000000
/-! MN: protocols spoilt. -/
namespace Sh
open PySem PySem.Spec
        PyProof.Rows L2
local macro_rules | `(tactic| walk_at "wk") => `(tactic| try simp only [wr_run, ws_seq, ws_ret, ws_retN, ws_next, ws_brk, ws_ct, ws_drop, ws_set, ws_if, ws_asg, ws_par, ws_aug, ws_for, wp_ok, wp_bad, wp_pure, wp_bind, wp_lift, wp_lift0, wp_var, wp_c, wp_bin, wp_un, wp_callN, wp_callF, wp_nil, wp_cons, wp_tup, wp_lst, wp_andV, wp_orV, wp_notV, wp_ifE, wp_tB, wp_andB, wp_orB, wp_notB, wp_chain, wp_optN, wp_optS, wp_slice, wp_meth, wp_lr, wp_lc, wp_seqI, wp_rng1, wg_name, wg_nil, wg_cons, wg_seq, wg_sub, startE, List.map_cons, List.map_nil, List.length_cons, List.length_nil, List.getElem?_cons_zero, List.getElem?_cons_succ, List.cons_append, List.nil_append, List.set_cons_zero, List.set_cons_succ, List.replicate_succ, List.replicate_zero, Nat.reduceSub, Nat.reduceAdd, isB, if_true, if_false, Bool.false_eq_true, Bool.not_true, Bool.not_false, reduceIte, yesB])
local macro_rules | `(tactic| walk_at "wi") => `(tactic| simp only [isT_tup, isB_tup, isI_tup, isS_tup, isL_tup, isT_bl, isB_bl, isI_bl, isS_bl, isL_bl, isT_int, isB_int, isI_int, isS_int, isL_int, isT_str, isB_str, isI_str, isS_str, isL_str, isT_non, isB_non, isI_non, isS_non, isL_non, isV_tup, isV_bl, isV_int, isV_str, isV_non, len_tup, tup_tup, eqV_bl, eqV_int, ne_int, addV_int, subV_int, gtV_int, ltV_int, leV_int, geV_int, intV_int, wp_lift, Bool.or_true, Bool.true_or, Bool.or_false, Bool.false_or, Bool.and_true, Bool.true_and, Bool.false_and, Bool.and_false, Bool.not_true, Bool.not_false, Bool.false_eq_true, if_true, if_false, reduceIte, beq_self_eq_true])
def pl9 : Nat → W → Prop
  | 0, _ => False
  | d + 1, x => match x with
    | .tup xs => xs.length ≤ 400 ∧ ∀ y ∈ xs, pl9 d y
    | .int _ => True
    | .str z => sOk z = true
    | _ => False
theorem pl9.pln : ∀ {d : Nat} {x : W}, pl9 d x → pln d x := by
  intro d
  induction d with
  | zero => intro x h; exact h.elim
  | succ d ih =>
    intro x h
    cases x with
    | tup xs => exact ⟨by have := h.1; omega, fun y hy => ih (h.2 y hy)⟩
    | int i => exact h
    | str z => exact h
    | _ => exact h.elim
theorem mem_cut {xs : List W} {lo hi : Option Int} {y : W} (h : y ∈ cutW xs lo hi) : y ∈ xs := by
  unfold cutW at h
  exact List.mem_of_mem_drop (List.mem_of_mem_take h)
theorem len_cut {xs : List W} {lo hi : Option Int} : (cutW xs lo hi).length ≤ xs.length := by
  unfold cutW
  rw [List.length_take,
          List.length_drop]
  omega
theorem slV_tup {xs : List W} {lo hi : Option Int} {m : Mem} : slV lo hi (.tup xs) m = some (.tup (cutW xs lo hi), m) := rfl
theorem addV_tup {xs ys : List W} {m : Mem} (h : xs.length + ys.length ≤ 5000) : addV (.tup xs) (.tup ys) m = some (.tup (xs ++ ys), m) := by
  unfold addV
  dsimp only
  rw [if_pos (by rw [sizeLine_eq]; omega)]
def F_spoilt : Nat → Fn
  | 0 => fun _ _ => .bad
  | d + 1 => runB 5 (b__law_spoilt_protocol F_take (F_spoilt d) F_pick F_whens)
def spW : List Str := ["none", "send 0", "send 4", "take", "tell", "got 4", "got", "got  0", "Tick", "got 01"]
def spL : List W := [.non, .int 7, .bl true, .str "", .tup [], .tup [.int 0, .str "tick", .int 0, .str "none"], .tup [.int 1, .int 0, .tup []], .str "a"]
theorem sp_strs : ∀ z ∈ WH ++ spW, sOk z = true := by decide +kernel
theorem spL_pln {d : Nat} : ∀ x ∈ spL, pln (d + 3) x := by
  have h1 : sOk "" = true := by decide +kernel
  have h2 : sOk "tick" = true := by decide +kernel
  have h3 : sOk "none" = true := by decide +kernel
  have h4 : sOk "a" = true := by decide +kernel
  intro x hx
  unfold spL at hx
  simp only [List.mem_cons,
          List.not_mem_nil, or_false] at hx
  rcases hx with rfl | rfl | rfl | rfl | rfl | rfl | rfl | rfl
  · trivial
  · trivial
  · trivial
  · exact h1
  · exact ⟨by decide, fun y hy => by cases hy⟩
  · refine ⟨by decide, fun y hy => ?_⟩
    simp only [List.mem_cons, List.not_mem_nil, or_false] at hy
    rcases hy with rfl | rfl | rfl | rfl
    · trivial
    · exact h2
    · trivial
    · exact h3
  · refine ⟨by decide, fun y hy => ?_⟩
    simp only [List.mem_cons, List.not_mem_nil, or_false] at hy
    rcases hy with rfl | rfl | rfl
    · trivial
    · trivial
    · exact ⟨by decide, fun y hy => by cases hy⟩
  · exact h4
theorem spoilt_post {row : List Int} {r s : Nat} : ∀ (d : Nat) (x : W) (m : Mem) (Q : W → Mem → Prop) (ex : Exc → Mem → Prop), pl9 d x → Dr r s row m → (∀ y m', pln (d + 2) y → Dr r s row m' → Kp s m m' → Q y m') → (F_spoilt d [.loc r, .loc s, x] m).Post Q ex := by
  intro d
  induction d with
  | zero => intro x m Q ex h; exact h.elim
  | succ d ih =>
    intro x m Q ex h dr q
    have hsz : sizeLine = 16777216 := sizeLine_eq
    have hs := dr.s_lt
    have hr := listAt_lt dr.hrow
    show (runB 5 (b__law_spoilt_protocol F_take (F_spoilt d) F_pick F_whens) [.loc r, .loc s, x] m).Post Q ex
    refine Eq.mpr wr_run ?_
    delta b__law_spoilt_protocol
    refine seq_mid (J := fun e m1 => e = [some (.loc r), some (.loc s), some x, none, none] ∧ Dr r s row m1 ∧ Kp s m m1) ?_ ?_
    · walk_at "wk"
      cases x with
      | tup xs =>
        walk_at "wi"
        by_cases c : (0 : Int) < xs.length
        · rw [decide_eq_true c]
          walk_at "wi"
          refine take_post dr (by decide) fun u m1 u0 u1 d1 k1 l1 => ?_
          walk_at "wi"
          by_cases c2 : (0 : Int) < u
          · rw [decide_eq_true c2]
            walk_at "wi"
            refine take_post d1 c fun v m2 v0 v1 d2 k2 l2 => ?_
            obtain ⟨y, e1, e2⟩ := atI_at v0 v1
            dsimp only
            rw [slV_tup, wp_lift, show ∀ m, ixV (.tup xs) (.int v) m = some (y, m) from fun m => by unfold ixV; dsimp only; rw [e2]; rfl, wp_lift]
            have hy := List.mem_of_getElem? e1
            refine ih y m2 _ _ (h.2 y hy) d2 fun z m3 h3 d3 k3 => ?_
            have hl := h.1
            refine ⟨by rw [hsz]; decide, ?_⟩
            have l1 := len_cut (xs := xs) (lo := none) (hi := some v)
            have l2 := len_cut (xs := xs) (lo := some (v + 1)) (hi := none)
            rw [addV_tup (by rw [List.length_singleton]; omega), wp_lift]
            walk_at "wi"
            rw [slV_tup, wp_lift, addV_tup (by rw [List.length_append, List.length_singleton]; omega), wp_lift]
            refine q _ _ ⟨by rw [List.length_append, List.length_append, List.length_singleton]; omega, fun a ha => ?_⟩ d3 ((k1.trans k2).trans k3)
            rcases List.mem_append.mp
                    ha with ha | ha
            · rcases List.mem_append.mp
                    ha with ha | ha
              · exact (h.2 a (mem_cut ha)).pln.mono (by omega)
              · rw [List.mem_singleton] at ha
                exact ha ▸ h3
            · exact (h.2 a (mem_cut ha)).pln.mono (by omega)
          · rw [decide_eq_false c2]
            walk_at "wi"
            exact ⟨trivial, d1, k1⟩
        · rw [decide_eq_false c]
          walk_at "wi"
          exact ⟨trivial, dr, Kp.refl⟩
      | int i => walk_at "wi"; exact ⟨trivial, dr, Kp.refl⟩
      | str z => walk_at "wi"; exact ⟨trivial, dr, Kp.refl⟩
      | _ => exact h.elim
    rintro _ m1 ⟨rfl, d1, k1⟩
    refine seq_mid (J := fun e m1 => ∃ v : Int, e = [some (.loc r), some (.loc s), some x, none, some (.int v)] ∧ Dr r s row m1 ∧ Kp s m m1) ?_ ?_
    · walk_at "wk"
      refine take_post d1 (by decide) fun u m2 u0 u1 d2 k2 l2 => ?_
      exact ⟨u, rfl, d2, k1.trans k2⟩
    rintro _ m2 ⟨v, rfl, d2, k2⟩
    have hl : ∀ xs, x = .tup xs → xs.length ≤ 400 := fun xs e => by subst e; exact h.1
    have hm : ∀ xs, x = .tup xs → ∀ a ∈ xs, pln (d + 2) a := fun xs e a ha => by subst e; exact (h.2 a ha).pln.mono (by omega)
    have stay : ∀ {t : SS} {q2 : SQ}, (t [some (.loc r), some (.loc s), some x, none, some (.int v)] m2).Post q2 → ∀ e m3, e = [some (.loc r), some (.loc s), some x, none, some (.int v)] ∧ m3 = m2 → (t e m3).Post q2 := fun hp e m3 ⟨h1, h2⟩ => by rw [h1, h2]; exact hp
    refine seq_mid (J := fun e m3 => e = [some (.loc r), some (.loc s), some x, none, some (.int v)] ∧ m3 = m2) ?_ (stay ?_)
    · walk_at "wk"
      cases x with
      | tup xs =>
        walk_at "wi"
        by_cases c : (v == 0) = true
        · rw [c]
          walk_at "wi"
          by_cases c2 : (0 : Int) < xs.length
          · rw [decide_eq_true c2]
            walk_at "wi"
            rw [slV_tup, wp_lift]
            have l1 := len_cut (xs := xs) (lo := none) (hi := some 1)
            have l2 := hl xs rfl
            rw [addV_tup (by omega), wp_lift]
            refine q _ _ ⟨by rw [List.length_append]; omega, fun a ha => ?_⟩ d2 k2
            rcases List.mem_append.mp
                    ha with ha | ha
            · exact hm xs rfl a ha
            · exact hm xs rfl a (mem_cut ha)
          · rw [decide_eq_false c2]
            walk_at "wi"
            exact ⟨trivial, trivial⟩
        · rw [Bool.not_eq_true] at c
          rw [c]
          walk_at "wi"
          exact ⟨trivial, trivial⟩
      | int i => walk_at "wi"; exact ⟨trivial, trivial⟩
      | str z => walk_at "wi"; exact ⟨trivial, trivial⟩
      | _ => exact h.elim
    refine seq_mid (J := fun e m3 => e = [some (.loc r), some (.loc s), some x, none, some (.int v)] ∧ m3 = m2) ?_ (stay ?_)
    · walk_at "wk"
      cases x with
      | tup xs =>
        walk_at "wi"
        by_cases c : (v == 1) = true
        · rw [c]
          walk_at "wi"
          by_cases c2 : (0 : Int) < xs.length
          · rw [decide_eq_true c2]
            walk_at "wi"
            rw [slV_tup, wp_lift]
            have l1 := len_cut (xs := xs) (lo := some 1) (hi := none)
            have l2 := hl xs rfl
            exact q _ _ ⟨by omega, fun a ha => hm xs rfl a (mem_cut ha)⟩ d2 k2
          · rw [decide_eq_false c2]
            walk_at "wi"
            exact ⟨trivial, trivial⟩
        · rw [Bool.not_eq_true] at c
          rw [c]
          walk_at "wi"
          exact ⟨trivial, trivial⟩
      | int i => walk_at "wi"; exact ⟨trivial, trivial⟩
      | str z => walk_at "wi"; exact ⟨trivial, trivial⟩
      | _ => exact h.elim
    refine seq_mid (J := fun e m3 => e = [some (.loc r), some (.loc s), some x, none, some (.int v)] ∧ m3 = m2) ?_ (stay ?_)
    · walk_at "wk"
      cases x with
      | tup xs =>
        walk_at "wi"
        by_cases c : (v == 2) = true
        · rw [c]
          walk_at "wi"
          by_cases c2 : (1 : Int) < xs.length
          · rw [decide_eq_true c2]
            walk_at "wi"
            rw [slV_tup, wp_lift, slV_tup, wp_lift]
            have l1 := len_cut (xs := xs) (lo := some 1) (hi := none)
            have l3 := len_cut (xs := xs) (lo := none) (hi := some 1)
            have l2 := hl xs rfl
            rw [addV_tup (by omega), wp_lift]
            refine q _ _ ⟨by rw [List.length_append]; omega, fun a ha => ?_⟩ d2 k2
            rcases List.mem_append.mp
                    ha with ha | ha
            · exact hm xs rfl a (mem_cut ha)
            · exact hm xs rfl a (mem_cut ha)
          · rw [decide_eq_false c2]
            walk_at "wi"
            exact ⟨trivial, trivial⟩
        · rw [Bool.not_eq_true] at c
          rw [c]
          walk_at "wi"
          exact ⟨trivial, trivial⟩
      | int i => walk_at "wi"; exact ⟨trivial, trivial⟩
      | str z => walk_at "wi"; exact ⟨trivial, trivial⟩
      | _ => exact h.elim
    refine seq_mid (J := fun e m3 => e = [some (.loc r), some (.loc s), some x, none, some (.int v)] ∧ m3 = m2) ?_ (stay ?_)
    · walk_at "wk"
      cases x with
      | int i =>
        walk_at "wi"
        by_cases c2 : v < 4
        · rw [decide_eq_true c2]
          walk_at "wi"
          refine ⟨by rw [hsz]; decide, ?_⟩
          have hs2 := d2.s_lt
          refine take_post d2.app (by decide) fun u m3 u0 u1 d3 k3 l3 => ?_
          obtain ⟨y, e1, e2⟩ := atI_at (xs := [W.int (i + 1), .int (i - 1), .int 0, .int 4, .int 5, .int 6, .non, .bl true]) u0 u1
          rw [ixV_items (w := .loc m2.length) (k3.list (by omega) listAt_new), e2, Option.map_some, wp_lift]
          refine q _ _ ?_ d3 (k2.trans (Kp.app_of k3))
          have hy := List.mem_of_getElem? e1
          simp only [List.mem_cons, List.not_mem_nil, or_false] at hy
          rcases hy with rfl | rfl | rfl | rfl | rfl | rfl | rfl | rfl <;> trivial
        · rw [decide_eq_false c2]
          walk_at "wi"
          exact ⟨trivial, trivial⟩
      | tup xs => walk_at "wi"; exact ⟨trivial, trivial⟩
      | str z => walk_at "wi"; exact ⟨trivial, trivial⟩
      | _ => exact h.elim
    refine seq_mid (J := fun e m3 => e = [some (.loc r), some (.loc s), some x, none, some (.int v)] ∧ m3 = m2) ?_ (stay ?_)
    · walk_at "wk"
      cases x with
      | str z =>
        walk_at "wi"
        by_cases c2 : v < 4
        · rw [decide_eq_true c2]
          walk_at "wi"
          rw [whens_eq, wp_ok]
          refine ⟨by rw [hsz]; decide, ?_⟩
          have hs2 := d2.s_lt
          show Res.Post (lift (addV (.loc m2.length) (.loc (m2 ++ [Cell.lst (WH.map W.str)]).length) (m2 ++ [Cell.lst (WH.map W.str)] ++ [Cell.lst (spW.map W.str)]))) _ _
          rw [addV_loc listAt_new1 listAt_new (by decide), wp_lift, ← List.map_append]
          refine pick_strs d2.app.app.app (by simp only [List.length_append]; omega) listAt_new (by decide) fun y m3 hy d3 k3 l3 => ?_
          exact q _ _ (sp_strs y hy) d3 (k2.trans (Kp.app_of (Kp.app_of (Kp.app_of k3))))
        · rw [decide_eq_false c2]
          walk_at "wi"
          exact ⟨trivial, trivial⟩
      | tup xs => walk_at "wi"; exact ⟨trivial, trivial⟩
      | int i => walk_at "wi"; exact ⟨trivial, trivial⟩
      | _ => exact h.elim
    walk_at "wk"
    refine ⟨by rw [hsz]; decide, by rw [hsz]; decide, by rw [hsz]; decide, by rw [hsz]; decide, by rw [hsz]; decide, ?_⟩
    have hs2 := d2.s_lt
    refine take_post d2.app (by decide) fun u m3 u0 u1 d3 k3 l3 => ?_
    obtain ⟨y, e1, e2⟩ := atI_at (xs := spL) u0 u1
    rw [ixV_items (w := .loc m2.length) (k3.list (by omega) (listAt_new (xs := spL))), e2, Option.map_some, wp_lift]
    exact q _ _ (spL_pln y (List.mem_of_getElem? e1)) d3 (k2.trans (Kp.app_of k3))
end Sh
set_option linter.all false
set_option maxRecDepth 100000
set_option
        maxHeartbeats 4000000
/-! MO: what the program asks of a value handed in. -/
namespace Sh
open PySem PySem.Spec
        PyProof.Rows L2
theorem post_eq {α : Type} {r : Res α} {a : α} {m : Mem} (h : r.Post (fun w m' => w = a ∧ m' = m) (fun _ _ => False)) : r = .ok a m := by
  cases r with
  | ok w m' => obtain ⟨h1, h2⟩ := h; rw [h1, h2]
  | exc x m' => exact h.elim
  | bad => exact h.elim
theorem itm_items {B : Nat} {m : Mem} {w : W} {ws : List W} (h : itm B m w = some ws) : itemsOf m w = some ws := by
  cases w with
  | tup => exact h
  | loc i =>
    have h1 : (if B ≤ i then listAt m i else none) = some ws := h
    by_cases hb : B ≤ i
    · rw [if_pos hb] at h1; exact h1
    · rw [if_neg hb] at h1; cases h1
  | _ => cases h
/-! ### data of what is handed in -/
def isStr (z : Str) : W → Bool
  | .str y => y == z
  | _ => false
structure DatOk (d : Nat) (x : W) (e : PyData) : Prop where
  lay : PyData.canLay0 e = true
  dep : PyData.depth e ≤ d
  l : ∀ z, PyData.eqv (.str z) e = isStr z x
  r : ∀ z, PyData.eqv e (.str z) = isStr z x
theorem mapM_dat {f : W → Option PyData} {d : Nat} : ∀ {ws xs : List W}, ws.length = xs.length → (∀ (k : Nat) (a b : W), ws[k]? = some a → xs[k]? = some b → ∃ e, f a = some e ∧ PyData.canLay0 e = true ∧ PyData.depth e ≤ d) → ∃ es, ws.mapM f = some es ∧ PyData.canLayAll0 es = true ∧ PyData.depthAll es ≤ d
  | [], xs, _, _ => ⟨[], rfl, by simp [PyData.canLayAll0], by simp [PyData.depthAll]⟩
  | w :: ws, [], h, _ => by cases h
  | w :: ws, x :: xs, h, k => by
    obtain ⟨e, h1, h2, h3⟩ := k 0 w x rfl rfl
    obtain ⟨es, h4, h5, h6⟩ := mapM_dat (ws := ws) (xs := xs) (by simpa using h) fun j a b e1 e2 => k (j + 1) a b (by simpa using e1) (by simpa using e2)
    refine ⟨e :: es, by rw [List.mapM_cons, h1, h4]; rfl, by simp only [PyData.canLayAll0, h2, h5, Bool.and_self], ?_⟩
    simp only [PyData.depthAll]
    omega
theorem dat_hdn {B : Nat} {m : Mem} : ∀ {d : Nat} {w x : W}, hdn B d m w x → ∀ n, ∃ e, toN m (n + d) w = some e ∧ DatOk d x e := by
  intro d
  induction d with
  | zero => intro w x h; exact h.elim
  | succ d ih =>
    intro w x h n
    cases x with
    | tup xs =>
      obtain ⟨h0, ws, h1, h2, h3⟩ := h
      obtain ⟨es, e1, e2, e3⟩ := mapM_dat (f := toN m (n + d)) (d := d) h2 fun k a b ea eb => by
        obtain ⟨e, i1, i2⟩ := ih (h3 k a b ea eb) n
        exact ⟨e, i1, i2.lay, i2.dep⟩
      cases w with
      | tup ys =>
        cases h1
        refine ⟨.tuple es, by show (ws.mapM (toN m (n + d))).map PyData.tuple = _; rw [e1]; rfl, ⟨by simp only [PyData.canLay0]; exact e2, by simp only [PyData.depth]; omega, fun z => by simp [PyData.eqv, isStr], fun z => by simp [PyData.eqv, isStr]⟩⟩
      | loc i =>
        have hi : listAt m i = some ws := itm_items h1
        refine ⟨.list es, by show (listAt m i).bind (fun xs => (xs.mapM (toN m (n + d))).map PyData.list) = _; rw [hi]; show (ws.mapM (toN m (n + d))).map PyData.list = _; rw [e1]; rfl, ⟨by simp only [PyData.canLay0]; exact e2, by simp only [PyData.depth]; omega, fun z => by simp [PyData.eqv, isStr], fun z => by simp [PyData.eqv, isStr]⟩⟩
      | _ => cases h1
    | non => cases h; exact ⟨.none, rfl, ⟨by simp [PyData.canLay0], by simp [PyData.depth], fun z => by simp [PyData.eqv, isStr], fun z => by simp [PyData.eqv, isStr]⟩⟩
    | bl b => cases h; exact ⟨.bool b, rfl, ⟨by simp [PyData.canLay0], by simp [PyData.depth], fun z => by simp [PyData.eqv, isStr], fun z => by simp [PyData.eqv, isStr]⟩⟩
    | int i => cases h; exact ⟨.int i, rfl, ⟨by simp [PyData.canLay0], by simp [PyData.depth], fun z => by simp [PyData.eqv, isStr], fun z => by simp [PyData.eqv, isStr]⟩⟩
    | str y =>
      obtain ⟨rfl, hy⟩ := h
      exact ⟨.str y, rfl, ⟨sok_lay hy, by simp [PyData.depth], fun z => by simp only [PyData.eqv, isStr]; rw [Bool.eq_iff_iff, beq_iff_eq, beq_iff_eq]; exact eq_comm, fun z => by simp only [PyData.eqv, isStr]⟩⟩
    | _ => exact h.elim
theorem DatOk.shaped {d : Nat} {x : W} {e : PyData} (h : DatOk d x e) (l : d ≤ 60) : SeqAt.shaped e = true := by
  show (PyData.canLay0 e && decide (PyData.depth e ≤ 64)) = true
  rw [h.lay, decide_eq_true (Nat.le_trans h.dep (by omega))]
  rfl
theorem eqV_hdn {B d : Nat} {m : Mem} {w x : W} {z : Str} (h : hdn B d m w x) (l : d ≤ 60) (hz : sOk z = true) : eqV w (.str z) m = some (.bl (isStr z x), m) ∧ neV w (.str z) m = some (.bl (!isStr z x), m) := by
  obtain ⟨e, h1, h2⟩ := dat_hdn h (65 - d)
  rw [show 65 - d + d = 65 by omega] at h1
  have hz' : SeqAt.shaped (.str z) = true := hz
  have key : eqvM m w (.str z) = some (isStr z x) := by
    unfold eqvM
    rw [show toM m w = some e from h1, show toM m (.str z) = some (.str z) from rfl]
    dsimp only
    rw [h2.shaped l, hz', h2.r]
    rfl
  unfold eqV neV
  rw [key]
  exact ⟨rfl, rfl⟩
/-- a value among words -/
theorem strs_dat {m : Mem} {n : Nat} : ∀ zs : List Str, (zs.map W.str).mapM (toN m (n + 1)) = some (zs.map PyData.str)
  | [] => rfl
  | z :: zs => by
    rw [List.map_cons, List.mapM_cons, strs_dat zs]
    rfl
theorem strs_shaped : ∀ {zs : List Str}, (∀ z ∈ zs, sOk z = true) → PyData.canLayAll0 (zs.map PyData.str) = true ∧ PyData.depthAll (zs.map PyData.str) = 0
  | [], _ => by simp [PyData.canLayAll0, PyData.depthAll]
  | z :: zs, h => by
    have ih := strs_shaped (zs := zs) fun x hx => h x (List.mem_cons_of_mem _ hx)
    have h1 := sok_lay (h z List.mem_cons_self)
    simp only [List.map_cons, PyData.canLayAll0, PyData.depthAll, h1, ih.1, ih.2, PyData.depth, Bool.and_self, true_and]
    omega
def isOf (zs : List Str) (x : W) : Bool := zs.any fun z => isStr z x
theorem in_strs {B d : Nat} {m : Mem} {w x y : W} {zs : List Str} (h : hdn B d m w x) (l : d ≤ 60) (hz : ∀ z ∈ zs, sOk z = true) (hy : y = .tup (zs.map W.str) ∨ ∃ i, y = .loc i ∧ listAt m i = some (zs.map W.str)) : inD m w y = some (isOf zs x) := by
  obtain ⟨e, h1, h2⟩ := dat_hdn h (65 - d)
  rw [show 65 - d + d = 65 by omega] at h1
  have s2 := strs_shaped hz
  have es : ((zs.map PyData.str).any fun z => PyData.eqv z e) = isOf zs x := by
    unfold isOf
    rw [List.any_map]
    congr 1
    funext z
    exact h2.l z
  unfold inD
  rw [show toM m w = some e from h1]
  rcases hy with rfl | ⟨i, rfl, hi⟩
  · have e2 : toM m (.tup (zs.map W.str)) = some (.tuple (zs.map PyData.str)) := by
      show ((zs.map W.str).mapM (toN m (63 + 1))).map PyData.tuple = _
      rw [strs_dat]
      rfl
    rw [e2]
    show (if (SeqAt.shaped e && SeqAt.shaped (.tuple (zs.map PyData.str))) = true then some ((zs.map PyData.str).any fun z => PyData.eqv z e) else none) = _
    have sh : SeqAt.shaped (.tuple (zs.map PyData.str)) = true := by
      show (PyData.canLay0 (.tuple (zs.map PyData.str)) && decide (PyData.depth (.tuple (zs.map PyData.str)) ≤ 64)) = true
      rw [Bool.and_eq_true]
      exact ⟨by simp only [PyData.canLay0]; exact s2.1, decide_eq_true (by simp only [PyData.depth]; omega)⟩
    rw [h2.shaped l, sh, es]
    rfl
  · have e2 : toM m (.loc i) = some (.list (zs.map PyData.str)) := by
      show (listAt m i).bind (fun xs => (xs.mapM (toN m 64)).map PyData.list) = _
      rw [hi]
      show ((zs.map W.str).mapM (toN m (63 + 1))).map PyData.list = _
      rw [strs_dat]
      rfl
    rw [e2]
    show (if (SeqAt.shaped e && SeqAt.shaped (.list (zs.map PyData.str))) = true then some ((zs.map PyData.str).any fun z => PyData.eqv z e) else none) = _
    rw [h2.shaped l, shaped_list s2.1 (by omega), es]
    rfl
end Sh
set_option linter.all false
set_option maxRecDepth 100000
set_option
        maxHeartbeats 4000000
/-! MP: the program's rules and rows. -/
namespace Sh
open PySem PySem.Spec
        PyProof.Rows L2
local macro_rules | `(tactic| walk_at "wk") => `(tactic| try simp only [wr_run, ws_seq, ws_ret, ws_retN, ws_next, ws_brk, ws_ct, ws_drop, ws_set, ws_if, ws_asg, ws_par, ws_aug, ws_for, wp_ok, wp_bad, wp_pure, wp_bind, wp_lift, wp_lift0, wp_var, wp_c, wp_bin, wp_un, wp_callN, wp_callF, wp_nil, wp_cons, wp_tup, wp_lst, wp_andV, wp_orV, wp_notV, wp_ifE, wp_tB, wp_andB, wp_orB, wp_notB, wp_chain, wp_optN, wp_optS, wp_slice, wp_meth, wp_lr, wp_lc, wp_seqI, wp_rng1, wg_name, wg_nil, wg_cons, wg_seq, wg_sub, startE, List.map_cons, List.map_nil, List.length_cons, List.length_nil, List.getElem?_cons_zero, List.getElem?_cons_succ, List.cons_append, List.nil_append, List.set_cons_zero, List.set_cons_succ, List.replicate_succ, List.replicate_zero, Nat.reduceSub, Nat.reduceAdd, isB, if_true, if_false, Bool.false_eq_true, Bool.not_true, Bool.not_false, reduceIte, yesB])
local macro_rules | `(tactic| walk_at "wi") => `(tactic| simp only [isT_tup, isB_tup, isI_tup, isS_tup, isL_tup, isT_bl, isB_bl, isI_bl, isS_bl, isL_bl, isT_int, isB_int, isI_int, isS_int, isL_int, isT_str, isB_str, isI_str, isS_str, isL_str, isT_non, isB_non, isI_non, isS_non, isL_non, isV_tup, isV_bl, isV_int, isV_str, isV_non, len_tup, tup_tup, eqV_bl, eqV_int, ne_int, addV_int, subV_int, gtV_int, ltV_int, leV_int, geV_int, intV_int, wp_lift, Bool.or_true, Bool.true_or, Bool.or_false, Bool.false_or, Bool.and_true, Bool.true_and, Bool.false_and, Bool.and_false, Bool.not_true, Bool.not_false, Bool.false_eq_true, if_true, if_false, reduceIte, beq_self_eq_true])
def F_is_sequence : Fn := runB 1 b_is_sequence
def F_is_row : Fn := runB 2 (b_is_row F_is_sequence)
def F_is_integer : Fn := runB 1 b_is_integer
def F_iif : Fn := runB 3 (b_is_integer_from F_is_integer)
def F_is_rule : Fn := runB 6 (b_is_rule F_is_row F_iif)
def isSeq : W → Bool
  | .tup _ => true
  | _ => false
def isRow (n : Nat) : W → Bool
  | .tup xs => xs.length == n
  | _ => false
def inFrom (lo hi : Int) : W → Bool
  | .int i => decide (lo ≤ i) && decide (i ≤ hi)
  | _ => false
theorem isi2_of {x : W} {a : String} {b c : Bool} {m : Mem} (h : tyName m x = some a) (k : kind a "list" = some b) (l : kind a "tuple" = some c) : isiV [x, .tup [.ty "list", .ty "tuple"]] m = some (.bl (b || c), m) := by
  unfold isiV
  dsimp only
  rw [h]
  dsimp only [Option.bind]
  rw [k]
  dsimp only
  rw [l]
  rfl
theorem isseq_eq {B d : Nat} {m : Mem} {w x : W} (h : hdn B d m w x) : F_is_sequence [w] m = .ok (.bl (isSeq x)) m := by
  have hsz : sizeLine = 16777216 := sizeLine_eq
  apply post_eq
  unfold F_is_sequence b_is_sequence
  walk_at "wk"
  refine ⟨by rw [hsz]; decide, ?_⟩
  cases d with
  | zero => exact h.elim
  | succ d =>
    cases x with
    | tup xs =>
      obtain ⟨h0, ws, h1, h2, h3⟩ := h
      cases w with
      | tup ys => rw [isi2_of rfl kd_tl kd_tt]; exact ⟨rfl, rfl⟩
      | loc i => rw [isi2_of (ty_loc (itm_items h1)) kd_ll kd_lt]; exact ⟨rfl, rfl⟩
      | _ => cases h1
    | non => cases h; rw [isi2_of rfl kd_nl kd_nt]; exact ⟨rfl, rfl⟩
    | bl b => cases h; rw [isi2_of rfl kd_bL kd_bt]; exact ⟨rfl, rfl⟩
    | int i => cases h; rw [isi2_of rfl kd_il kd_it]; exact ⟨rfl, rfl⟩
    | str z => cases h.1; rw [isi2_of rfl kd_sl kd_st]; exact ⟨rfl, rfl⟩
    | _ => exact h.elim
theorem isrow_eq {B d : Nat} {m : Mem} {w x : W} {n : Nat} (h : hdn B d m w x) : F_is_row [w, .int n] m = .ok (.bl (isRow n x)) m := by
  apply post_eq
  unfold F_is_row b_is_row
  walk_at "wk"
  rw [isseq_eq h, wp_ok]
  cases d with
  | zero => exact h.elim
  | succ d =>
    cases x with
    | tup xs =>
      obtain ⟨h0, ws, h1, h2, h3⟩ := h
      walk_at "wk"
      dsimp only [isSeq]
      rw [lenV_items (itm_items h1), wp_lift, eqV_int, wp_lift]
      refine ⟨?_, rfl⟩
      rw [h2]
      show W.bl ((xs.length : Int) == n) = W.bl (xs.length == n)
      congr 1
      rw [Bool.eq_iff_iff,
              beq_iff_eq, beq_iff_eq]
      omega
    | non => exact ⟨rfl, rfl⟩
    | bl b => exact ⟨rfl, rfl⟩
    | int i => exact ⟨rfl, rfl⟩
    | str z => exact ⟨rfl, rfl⟩
    | _ => exact h.elim
def isIntW : W → Bool
  | .int _ => true
  | _ => false
theorem isint_eq {B d : Nat} {m : Mem} {w x : W} (h : hdn B d m w x) : F_is_integer [w] m = .ok (.bl (isIntW x)) m := by
  apply post_eq
  unfold F_is_integer b_is_integer
  walk_at "wk"
  cases d with
  | zero => exact h.elim
  | succ d =>
    cases x with
    | tup xs =>
      obtain ⟨h0, ws, h1, h2, h3⟩ := h
      cases w with
      | tup ys => walk_at "wi"; exact ⟨rfl, trivial⟩
      | loc i => rw [isI_loc (itm_items h1), wp_lift]; exact ⟨rfl, rfl⟩
      | _ => cases h1
    | non => cases h; walk_at "wi"; exact ⟨rfl, trivial⟩
    | bl b => cases h; walk_at "wi"; exact ⟨rfl, trivial⟩
    | int i => cases h; walk_at "wi"; exact ⟨rfl, trivial⟩
    | str z => cases h.1; walk_at "wi"; exact ⟨rfl, trivial⟩
    | _ => exact h.elim
theorem iif_eq {B d : Nat} {m : Mem} {w x : W} {lo hi : Int} (h : hdn B d m w x) : F_iif [w, .int lo, .int hi] m = .ok (.bl (inFrom lo hi x)) m := by
  apply post_eq
  unfold F_iif b_is_integer_from
  walk_at "wk"
  rw [isint_eq h, wp_ok]
  cases d with
  | zero => exact h.elim
  | succ d =>
    cases x with
    | int i =>
      cases h
      dsimp only [isIntW]
      walk_at "wi"
      by_cases c : lo ≤ i
      · rw [decide_eq_true c]
        walk_at "wi"
        refine ⟨?_, trivial⟩
        show _ = W.bl (decide (lo ≤ i) && decide (i ≤ hi))
        rw [decide_eq_true c, Bool.true_and]
      · rw [decide_eq_false c]
        walk_at "wi"
        refine ⟨?_, trivial⟩
        show _ = W.bl (decide (lo ≤ i) && decide (i ≤ hi))
        rw [decide_eq_false c, Bool.false_and]
    | tup xs => exact ⟨rfl, rfl⟩
    | non => exact ⟨rfl, rfl⟩
    | bl b => exact ⟨rfl, rfl⟩
    | str z => exact ⟨rfl, rfl⟩
    | _ => exact h.elim
def ACTS7 : List Str := ["none", "send 0", "send 1", "send 2", "send 3", "take", "tell"]
theorem acts7_ok : ∀ z ∈ ACTS7, sOk z = true := by decide +kernel
def okRule (n : Int) : W → Bool
  | .tup [a, b, c, e] => (inFrom 0 (n - 1) a && inFrom 0 (n - 1) c) && ((isOf WH b && isOf ACTS7 e) && (!isStr "pull" b || isStr "none" e))
  | _ => false
theorem is_rule_eq {B d : Nat} {m : Mem} {w x : W} {n : Int} (h : hdn B d m w x) (hd : d ≤ 60) : F_is_rule [w, .int n] m = .ok (.bl (okRule n x)) m := by
  apply post_eq
  unfold F_is_rule
  refine Eq.mpr wr_run ?_
  delta b_is_rule
  walk_at "wk"
  have hrow : F_is_row [w, .int 4] m = .ok (.bl (isRow 4 x)) m := isrow_eq (n := 4) h
  rw [hrow, wp_ok]
  dsimp only
  by_cases c : isRow 4 x = true
  · rw [c]
    walk_at "wk"
    cases x with
    | tup xs =>
      have hx : xs.length = 4 := beq_iff_eq.mp c
      match xs, hx with
      | [a, b, c2, e], _ =>
        cases d with
        | zero => exact h.elim
        | succ d =>
          obtain ⟨h0, ws, h1, h2, h3⟩ := h
          match ws, h2 with
          | [a', b', c', e'], _ =>
            have ha := h3 0 a' a rfl rfl
            have hb := h3 1 b' b rfl rfl
            have hc := h3 2 c' c2 rfl rfl
            have he := h3 3 e' e rfl rfl
            rw [itm_items h1]
            walk_at "wk"
            refine ⟨trivial, ?_⟩
            walk_at "wi"
            rw [iif_eq ha, wp_ok]
            dsimp only
            rw [show okRule n (.tup [a, b, c2, e]) = ((inFrom 0 (n - 1) a && inFrom 0 (n - 1) c2) && ((isOf WH b && isOf ACTS7 e) && (!isStr "pull" b || isStr "none" e))) from rfl]
            cases k1 : inFrom 0 (n - 1) a with
            | false => walk_at "wi"; exact ⟨trivial, trivial⟩
            | true =>
              walk_at "wi"
              rw [iif_eq hc, wp_ok]
              dsimp only
              cases k2 : inFrom 0 (n - 1) c2 with
              | false => walk_at "wi"; exact ⟨trivial, trivial⟩
              | true =>
                walk_at "wi"
                have w1 : inD m b' v_WHENS = some (isOf WH b) := in_strs hb (by omega) wh_ok (.inl rfl)
                have w2 : inD m e' v_ACTS = some (isOf ACTS7 e) := in_strs he (by omega) acts7_ok (.inl rfl)
                unfold notInV
                rw [w1, Option.map_some, wp_lift]
                dsimp only
                cases k3 : isOf WH b with
                | false => walk_at "wi"; exact ⟨trivial, trivial⟩
                | true =>
                  walk_at "wi"
                  rw [w2, Option.map_some, wp_lift]
                  dsimp only
                  cases k4 : isOf ACTS7 e with
                  | false => walk_at "wi"; exact ⟨trivial, trivial⟩
                  | true =>
                    walk_at "wi"
                    rw [(eqV_hdn hb (by omega) pull_ok).2, wp_lift]
                    dsimp only
                    cases k5 : isStr (Str.ofString "pull") b with
                    | false => walk_at "wi"; exact ⟨trivial, trivial⟩
                    | true =>
                      walk_at "wi"
                      rw [(eqV_hdn he (by omega) (by decide +kernel)).1, wp_lift]
                      exact ⟨rfl, rfl⟩
    | _ => cases c
  · rw [Bool.not_eq_true] at c
    rw [c]
    walk_at "wk"
    refine ⟨?_, trivial⟩
    unfold okRule
    cases x with
    | tup xs =>
      match xs with
      | [] => rfl
      | [_] => rfl
      | [_, _] => rfl
      | [_, _, _] => rfl
      | [_, _, _, _] => cases c
      | _ :: _ :: _ :: _ :: _ :: _ => rfl
    | _ => rfl
end Sh
set_option linter.all false
set_option maxRecDepth 100000
set_option
        maxHeartbeats 4000000
/-! MQ: the program's sides. -/
namespace Sh
open PySem PySem.Spec
        PyProof.Rows L2
local macro_rules | `(tactic| walk_at "wk") => `(tactic| try simp only [wr_run, ws_seq, ws_ret, ws_retN, ws_next, ws_brk, ws_ct, ws_drop, ws_set, ws_if, ws_asg, ws_par, ws_aug, ws_for, wp_ok, wp_bad, wp_pure, wp_bind, wp_lift, wp_lift0, wp_var, wp_c, wp_bin, wp_un, wp_callN, wp_callF, wp_nil, wp_cons, wp_tup, wp_lst, wp_andV, wp_orV, wp_notV, wp_ifE, wp_tB, wp_andB, wp_orB, wp_notB, wp_chain, wp_optN, wp_optS, wp_slice, wp_meth, wp_lr, wp_lc, wp_seqI, wp_rng1, wg_name, wg_nil, wg_cons, wg_seq, wg_sub, startE, List.map_cons, List.map_nil, List.length_cons, List.length_nil, List.getElem?_cons_zero, List.getElem?_cons_succ, List.cons_append, List.nil_append, List.set_cons_zero, List.set_cons_succ, List.replicate_succ, List.replicate_zero, Nat.reduceSub, Nat.reduceAdd, isB, if_true, if_false, Bool.false_eq_true, Bool.not_true, Bool.not_false, reduceIte, yesB])
def b_are_different : SS := retS (bin eqV (callN lenSetV (consA (varE 0) nilA)) (callN lenV (consA (varE 0) nilA)))
def F_ad : Fn := runB 1 b_are_different
theorem ints_mapM : ∀ is : List Int, (is.map W.int).mapM intW = some is
  | [] => rfl
  | i :: is => by
    rw [List.map_cons, List.mapM_cons, ints_mapM is]
    rfl
def Rl.key (q : Rl) : List (Int ⊕ Str) := [.inl q.s, .inr q.w, .inl q.t, .inr q.a]
theorem Rl.key_inj {q r : Rl} (h : q.key = r.key) : q = r := by
  obtain ⟨_, _, _, _⟩ := q
  obtain ⟨_, _, _, _⟩ := r
  cases h
  rfl
theorem tup_key (q : Rl) : tupW q.enc = some q.key := rfl
theorem tups_mapM : ∀ qs : List Rl, (qs.map Rl.enc).mapM tupW = some (qs.map Rl.key)
  | [] => rfl
  | q :: qs => by
    rw [List.map_cons, List.mapM_cons, tups_mapM qs, tup_key]
    rfl
theorem ad_ints {m : Mem} {i : Nat} {is : List Int} (h : listAt m i = some (is.map W.int)) (hl : is.length < 60) : F_ad [.loc i] m = .ok (.bl (decide is.Nodup)) m := by
  apply post_eq
  unfold F_ad b_are_different
  walk_at "wk"
  have e : lenSetV [.loc i] m = some (.int (dcount is : Nat), m) := by
    unfold lenSetV
    dsimp only
    rw [h]
    dsimp only [Option.bind]
    rw [if_pos (by rw [List.length_map]; exact hl), ints_mapM]
  rw [e, wp_lift, len_loc h, wp_lift, eqV_int, wp_lift, List.length_map, ← dcount_nodup]
  refine ⟨?_, rfl⟩
  congr 1
  rw [Bool.eq_iff_iff,
          beq_iff_eq, beq_iff_eq]
  omega
theorem ad_rules {m : Mem} {i : Nat} {qs : List Rl} (h : listAt m i = some (qs.map Rl.enc)) (hl : qs.length < 60) : F_ad [.loc i] m = .ok (.bl (decide qs.Nodup)) m := by
  cases qs with
  | nil => exact ad_ints (is := []) h (by decide)
  | cons q qs =>
    apply post_eq
    unfold F_ad b_are_different
    walk_at "wk"
    have e : lenSetV [.loc i] m = some (.int (dcount ((q :: qs).map Rl.key) : Nat), m) := by
      unfold lenSetV
      dsimp only
      rw [h]
      dsimp only [Option.bind]
      rw [if_pos (by rw [List.length_map]; exact hl), tups_mapM]
      have : ((q :: qs).map Rl.enc).mapM intW = none := by
        rw [List.map_cons, List.mapM_cons]
        rfl
      rw [this]
    rw [e, wp_lift, len_loc h, wp_lift, eqV_int, wp_lift, List.length_map]
    refine ⟨?_, rfl⟩
    congr 1
    have k := dcount_nodup ((q :: qs).map Rl.key)
    rw [List.length_map] at k
    rw [Bool.eq_iff_iff, beq_iff_eq, decide_eq_true_iff]
    rw [Bool.eq_iff_iff, beq_iff_eq, decide_eq_true_iff] at k
    refine ⟨fun z => ?_, fun z => by have := k.mpr (nodup_map_on z fun a _ b _ e => Rl.key_inj e); omega⟩
    have n := k.mp (by omega)
    exact List.Pairwise.of_map Rl.key (fun a b hne e => hne (congrArg Rl.key e)) n
/-! ### rules of the one kind or the other -/
structure Rl7 (n : Int) (q : Rl) : Prop where
  s0 : 0 ≤ q.s
  s1 : q.s < n
  w : q.w ∈ WH
  t0 : 0 ≤ q.t
  t1 : q.t < n
  a : q.a ∈ ACTS7
  p : q.w = "pull" → q.a = "none"
instance {n : Int} {q : Rl} : Decidable (Rl7 n q) := decidable_of_iff (0 ≤ q.s ∧ q.s < n ∧ q.w ∈ WH ∧ 0 ≤ q.t ∧ q.t < n ∧ q.a ∈ ACTS7 ∧ (q.w = "pull" → q.a = "none"))
  ⟨fun ⟨a, b, c, d, e, f, g⟩ => ⟨a, b, c, d, e, f, g⟩, fun ⟨a, b, c, d, e, f, g⟩ => ⟨a, b, c, d, e, f, g⟩⟩
def dec : W → Option Rl
  | .tup [.int s, .str w, .int t, .str a] => some ⟨s, w, t, a⟩
  | _ => none
theorem dec_enc (q : Rl) : dec q.enc = some q := rfl
theorem decs (qs : List Rl) : (qs.map Rl.enc).mapM dec = some qs := by
  induction qs with
  | nil => rfl
  | cons q qs ih => rw [List.map_cons, List.mapM_cons, ih, dec_enc]; rfl
theorem isOf_str {zs : List Str} {y : Str} : isOf zs (.str y) = decide (y ∈ zs) := by
  unfold isOf
  rw [Bool.eq_iff_iff, List.any_eq_true, decide_eq_true_iff]
  refine ⟨fun ⟨z, h1, h2⟩ => ?_, fun h => ⟨y, h, beq_self_eq_true y⟩⟩
  have : y = z := beq_iff_eq.mp h2
  exact this ▸ h1
theorem isOf_some {zs : List Str} {x : W} (h : isOf zs x = true) : ∃ y, x = .str y ∧ y ∈ zs := by
  obtain ⟨z, h1, h2⟩ := List.any_eq_true.mp h
  cases x with
  | str y => have : y = z := beq_iff_eq.mp h2; exact ⟨y, rfl, this ▸ h1⟩
  | _ => cases h2
theorem inFrom_some {lo hi : Int} {x : W} (h : inFrom lo hi x = true) : ∃ i, x = .int i ∧ lo ≤ i ∧ i ≤ hi := by
  cases x with
  | int i =>
    have := Bool.and_eq_true_iff.mp h
    exact ⟨i, rfl, of_decide_eq_true this.1, of_decide_eq_true this.2⟩
  | _ => cases h
theorem okRule_some {n : Int} {x : W} (h : okRule n x = true) : ∃ q, x = q.enc ∧ Rl7 n q := by
  cases x with
  | tup xs =>
    match xs, h with
    | [a, b, c, e], h =>
      have h1 : ((inFrom 0 (n - 1) a && inFrom 0 (n - 1) c) && ((isOf WH b && isOf ACTS7 e) && (!isStr "pull" b || isStr "none" e))) = true := h
      rw [Bool.and_eq_true, Bool.and_eq_true, Bool.and_eq_true, Bool.and_eq_true] at h1
      obtain ⟨⟨h2, h3⟩, ⟨h4, h5⟩, h6⟩ := h1
      obtain ⟨s, rfl, s0, s1⟩ := inFrom_some h2
      obtain ⟨t, rfl, t0, t1⟩ := inFrom_some h3
      obtain ⟨w, rfl, hw⟩ := isOf_some h4
      obtain ⟨y, rfl, hy⟩ := isOf_some h5
      refine ⟨⟨s, w, t, y⟩, rfl, ⟨s0, by dsimp only; omega, hw, t0, by dsimp only; omega, hy, fun e => ?_⟩⟩
      have e' : w = ("pull" : Str) := e
      subst e'
      have : (!((("pull" : Str) == ("pull" : Str))) || (y == ("none" : Str))) = true := h6
      rw [beq_self_eq_true, Bool.not_true, Bool.false_or, beq_iff_eq] at this
      exact this
    | [], h => cases h
    | [_], h => cases h
    | [_, _], h => cases h
    | [_, _, _], h => cases h
    | _ :: _ :: _ :: _ :: _ :: _, h => cases h
  | _ => cases h
theorem okRule_enc {n : Int} {q : Rl} (h : Rl7 n q) : okRule n q.enc = true := by
  show ((inFrom 0 (n - 1) (.int q.s) && inFrom 0 (n - 1) (.int q.t)) && ((isOf WH (.str q.w) && isOf ACTS7 (.str q.a)) && (!isStr "pull" (.str q.w) || isStr "none" (.str q.a)))) = true
  have s0 := h.s0
  have s1 := h.s1
  have t0 := h.t0
  have t1 := h.t1
  rw [isOf_str, isOf_str, decide_eq_true h.w, decide_eq_true h.a]
  have e1 : inFrom 0 (n - 1) (.int q.s) = true := by show (decide (0 ≤ q.s) && decide (q.s ≤ n - 1)) = true; rw [decide_eq_true s0, decide_eq_true (by omega)]; rfl
  have e2 : inFrom 0 (n - 1) (.int q.t) = true := by show (decide (0 ≤ q.t) && decide (q.t ≤ n - 1)) = true; rw [decide_eq_true t0, decide_eq_true (by omega)]; rfl
  rw [e1, e2]
  show (!(q.w == ("pull" : Str)) || (q.a == ("none" : Str))) = true
  by_cases c : q.w = "pull"
  · rw [h.p c]
    simp
  · rw [beq_eq_false_iff_ne.mpr c]
    rfl
def sideR (n : Int) (bar : Str) (rs : List W) : Bool := match rs.mapM dec with
  | some qs => decide ((∀ q ∈ qs, Rl7 n q) ∧ qs.Nodup ∧ (pls qs).Nodup ∧ bar ∉ qs.map Rl.a)
  | none => false
def startIn : W → W → Bool
  | .int n, b => inFrom 0 (n - 1) b
  | _, _ => false
def rulesIn (bar : Str) (a : W) : W → Bool
  | .tup rs => decide (rs.length ≤ 12) && (match a with | .int n => sideR n bar rs | _ => false)
  | _ => false
def isSideB (bar : Str) : W → Bool
  | .tup [a, b, c] => inFrom 1 5 a && (startIn a b && rulesIn bar a c)
  | _ => false
theorem oks_some {n : Int} : ∀ {rs : List W}, rs.all (okRule n) = true → ∃ qs : List Rl, rs = qs.map Rl.enc ∧ ∀ q ∈ qs, Rl7 n q
  | [], _ => ⟨[], rfl, fun q h => by cases h⟩
  | r :: rs, h => by
    rw [List.all_cons,
            Bool.and_eq_true] at h
    obtain ⟨q, rfl, hq⟩ := okRule_some h.1
    obtain ⟨qs, rfl, hqs⟩ := oks_some h.2
    exact ⟨q :: qs, rfl, fun r hr => (List.mem_cons.mp hr).elim (fun e => e ▸ hq) (hqs r)⟩
theorem sideR_no {n : Int} {bar : Str} {rs : List W} (h : rs.all (okRule n) = false) : sideR n bar rs = false := by
  unfold sideR
  cases e : rs.mapM dec with
  | none => rfl
  | some qs =>
    dsimp only
    apply decide_eq_false
    rintro ⟨h1, _⟩
    have key : ∀ (rs : List W) (qs : List Rl), rs.mapM dec = some qs → (∀ q ∈ qs, Rl7 n q) → rs.all (okRule n) = true := by
      intro rs
      induction rs with
      | nil => intro qs _ _; rfl
      | cons r rs ih =>
        intro qs e h1
        obtain ⟨q, qs', e1, e2, rfl⟩ := mapM_cons_some e
        have er : r = q.enc := by
          unfold dec at e1
          split at e1
          · cases e1; rfl
          · cases e1
        rw [List.all_cons, er, okRule_enc (h1 q List.mem_cons_self), ih qs' e2 fun q hq => h1 q (List.mem_cons_of_mem _ hq)]
        rfl
    rw [key rs qs e h1] at h
    cases h
theorem sideR_yes {n : Int} {bar : Str} {qs : List Rl} (h : ∀ q ∈ qs, Rl7 n q) : sideR n bar (qs.map Rl.enc) = (decide qs.Nodup && (decide (pls qs).Nodup && !decide (bar ∈ qs.map Rl.a))) := by
  unfold sideR
  rw [decs]
  dsimp only
  rw [Bool.eq_iff_iff, decide_eq_true_iff, Bool.and_eq_true, Bool.and_eq_true, decide_eq_true_iff, decide_eq_true_iff, Bool.not_eq_true', decide_eq_false_iff_not]
  exact ⟨fun ⟨_, a, b, c⟩ => ⟨a, b, c⟩, fun ⟨a, b, c⟩ => ⟨h, a, b, c⟩⟩
end Sh
set_option linter.all false
set_option maxRecDepth 100000
set_option
        maxHeartbeats 4000000
/-! MR: the program's answer of a side, of a protocol. -/
namespace Sh
open PySem PySem.Spec
        PyProof.Rows L2
local macro_rules | `(tactic| walk_at "wk") => `(tactic| try simp only [wr_run, ws_seq, ws_ret, ws_retN, ws_next, ws_brk, ws_ct, ws_drop, ws_set, ws_if, ws_asg, ws_par, ws_aug, ws_for, wp_ok, wp_bad, wp_pure, wp_bind, wp_lift, wp_lift0, wp_var, wp_c, wp_bin, wp_un, wp_callN, wp_callF, wp_nil, wp_cons, wp_tup, wp_lst, wp_andV, wp_orV, wp_notV, wp_ifE, wp_tB, wp_andB, wp_orB, wp_notB, wp_chain, wp_optN, wp_optS, wp_slice, wp_meth, wp_lr, wp_lc, wp_seqI, wp_rng1, wg_name, wg_nil, wg_cons, wg_seq, wg_sub, startE, List.map_cons, List.map_nil, List.length_cons, List.length_nil, List.getElem?_cons_zero, List.getElem?_cons_succ, List.cons_append, List.nil_append, List.set_cons_zero, List.set_cons_succ, List.replicate_succ, List.replicate_zero, Nat.reduceSub, Nat.reduceAdd, isB, if_true, if_false, Bool.false_eq_true, Bool.not_true, Bool.not_false, reduceIte, yesB])
local macro_rules | `(tactic| walk_at "wi") => `(tactic| simp only [isT_tup, isB_tup, isI_tup, isS_tup, isL_tup, isT_bl, isB_bl, isI_bl, isS_bl, isL_bl, isT_int, isB_int, isI_int, isS_int, isL_int, isT_str, isB_str, isI_str, isS_str, isL_str, isT_non, isB_non, isI_non, isS_non, isL_non, isV_tup, isV_bl, isV_int, isV_str, isV_non, len_tup, tup_tup, eqV_bl, eqV_int, ne_int, addV_int, subV_int, gtV_int, ltV_int, leV_int, geV_int, intV_int, wp_lift, Bool.or_true, Bool.true_or, Bool.or_false, Bool.false_or, Bool.and_true, Bool.true_and, Bool.false_and, Bool.and_false, Bool.not_true, Bool.not_false, Bool.false_eq_true, if_true, if_false, reduceIte, beq_self_eq_true])
local macro_rules | `(tactic| walk_at "wl") => `(tactic| (try simp only [wipeE, List.set_cons_zero, List.set_cons_succ]; try walk_at "wk"))
def F_is_side : Fn := runB 8 (b_is_side F_is_row F_iif F_is_sequence F_is_rule F_ad)
theorem allV_bls {m : Mem} {i : Nat} {bs : List Bool} (h : listAt m i = some (bs.map W.bl)) : allV [.loc i] m = some (.bl (bs.all id), m) := by
  have e : ∀ bs : List Bool, (bs.map W.bl).mapM isB = some bs := by
    intro bs
    induction bs with
    | nil => rfl
    | cons b bs ih => rw [List.map_cons, List.mapM_cons, ih]; rfl
  unfold allV
  dsimp only
  rw [h]
  show ((bs.map W.bl).mapM isB).map _ = _
  rw [e]
  rfl
/-- a handed rule -/
theorem hdn_enc {B d : Nat} {m : Mem} {w : W} {q : Rl} (h : hdn B (d + 2) m w q.enc) : itm B m w = some [.int q.s, .str q.w, .int q.t, .str q.a] ∧ sOk q.w = true ∧ sOk q.a = true := by
  obtain ⟨h0, ws, h1, h2, h3⟩ := h
  match ws, h2 with
  | [a, b, c, e], _ =>
    have ha : a = .int q.s := h3 0 a (.int q.s) rfl rfl
    have hb : b = .str q.w ∧ sOk q.w = true := h3 1 b (.str q.w) rfl rfl
    have hc : c = .int q.t := h3 2 c (.int q.t) rfl rfl
    have he : e = .str q.a ∧ sOk q.a = true := h3 3 e (.str q.a) rfl rfl
    rw [h1, ha, hb.1, hc, he.1]
    exact ⟨rfl, hb.2, he.2⟩
theorem ix_itm {B : Nat} {m : Mem} {w : W} {ws : List W} {i : Nat} {x : W} (h : itm B m w = some ws) (e : ws[i]? = some x) : ixV w (.int (i : Nat)) m = some (x, m) := by
  have hl := (List.getElem?_eq_some_iff.mp e).1
  rw [ixV_items (itm_items h)]
  unfold atI
  rw [ixN_at (by omega) (by omega), Int.toNat_natCast]
  show ((ws[i]?).map _ : Option (W × Mem)) = _
  rw [e]
  rfl
theorem tupleV_itm {B : Nat} {m : Mem} {w : W} {ws : List W} (h : itm B m w = some ws) : tupleV [w] m = some (.tup ws, m) := by
  show (itemsOf m w).map _ = _
  rw [itm_items h]
  rfl
theorem pls_take {qs : List Rl} {k : Nat} {q : Rl} (h : qs[k]? = some q) : pls (qs.take (k + 1)) = pls (qs.take k) ++ (if pl q = true then [q.s] else []) := by
  rw [take_snoc h, pls_snoc]
theorem is_side_post {B d : Nat} {m : Mem} {w x : W} {bar : Str} {Q : W → Mem → Prop} {ex : Exc → Mem → Prop} (h : hdn B (d + 4) m w x) (hd : d ≤ 50) (hb : sOk bar = true) (q : ∀ m', Kq m m' → Q (.bl (isSideB bar x)) m') : (F_is_side [w, .str bar] m).Post Q ex := by
  have hsz : sizeLine = 16777216 := sizeLine_eq
  unfold F_is_side
  refine Eq.mpr wr_run ?_
  delta b_is_side
  refine seq_mid (J := fun e m1 => m = m1 ∧ (∃ xs, x = .tup xs ∧ xs.length = 3) ∧ e = [some w, some (.str bar), none, none, none, none, none, none]) ?_ ?_
  · walk_at "wk"
    have hrow : F_is_row [w, .int 3] m = .ok (.bl (isRow 3 x)) m := isrow_eq (n := 3) h
    rw [hrow, wp_ok]
    dsimp only
    by_cases c : isRow 3 x = true
    · rw [c]
      walk_at "wk"
      refine ⟨trivial, ?_, trivial⟩
      cases x with
      | tup xs => exact ⟨xs, rfl, beq_iff_eq.mp c⟩
      | _ => cases c
    · rw [Bool.not_eq_true] at c
      rw [c]
      walk_at "wk"
      have : isSideB bar x = false := by
        cases x with
        | tup xs =>
          match xs with
          | [] => rfl
          | [_] => rfl
          | [_, _] => rfl
          | [_, _, _] => cases c
          | _ :: _ :: _ :: _ :: _ => rfl
        | _ => rfl
      have q' := q m Kq.refl
      rw [this] at q'
      exact q'
  rintro _ _ ⟨rfl, ⟨xs, rfl, hx⟩, rfl⟩
  match xs, hx with
  | [a, b, c], _ =>
  obtain ⟨h0, ws, h1, h2, h3⟩ := h
  match ws, h2 with
  | [a', b', c'], _ =>
  have ha := h3 0 a' a rfl rfl
  have hbb := h3 1 b' b rfl rfl
  have hc := h3 2 c' c rfl rfl
  have q : ∀ (v : Bool) m', v = (inFrom 1 5 a && (startIn a b && rulesIn bar a c)) → Kq m m' → Q (.bl v) m' := fun v m' e k => by rw [e]; exact q m' k
  refine seq_mid (J := fun e m1 => m = m1 ∧ e = [some w, some (.str bar), some a', some b', some c', none, none, none]) ?_ ?_
  · walk_at "wk"
    rw [itm_items h1]
    walk_at "wk"
    exact ⟨trivial, trivial, trivial⟩
  rintro _ _ ⟨rfl, rfl⟩
  refine seq_mid (J := fun e m1 => m = m1 ∧ (∃ n b0, a = .int n ∧ b = .int b0 ∧ 1 ≤ n ∧ n ≤ 5 ∧ inFrom 1 5 a = true ∧ startIn a b = true) ∧ e = [some w, some (.str bar), some a', some b', some c', none, none, none]) ?_ ?_
  · walk_at "wk"
    have hi : F_iif [a', .int 1, v_MOST_STATES] m = .ok (.bl (inFrom 1 5 a)) m := iif_eq ha
    rw [hi, wp_ok]
    dsimp only
    cases k1 : inFrom 1 5 a with
    | false =>
      walk_at "wi"
      refine q _ _ ?_ Kq.refl
      rw [k1, Bool.false_and]
    | true =>
      walk_at "wi"
      obtain ⟨n, rfl, n1, n5⟩ := inFrom_some k1
      have ha' : a' = .int n := ha
      subst ha'
      walk_at "wi"
      rw [iif_eq hbb, wp_ok]
      dsimp only
      cases k2 : inFrom 0 (n - 1) b with
      | false =>
        walk_at "wi"
        refine q _ _ ?_ Kq.refl
        rw [show startIn (.int n) b = inFrom 0 (n - 1) b from rfl, k2, Bool.false_and, Bool.and_false]
      | true =>
        walk_at "wi"
        obtain ⟨b0, rfl, _, _⟩ := inFrom_some k2
        exact ⟨trivial, ⟨n, b0, rfl, rfl, n1, n5, trivial, k2⟩, trivial⟩
  rintro _ _ ⟨rfl, ⟨n, b0, rfl, rfl, n1, n5, k1, k2⟩, rfl⟩
  have ha' : a' = .int n := ha
  subst ha'
  have q : ∀ (v : Bool) m', v = rulesIn bar (.int n) c → Kq m m' → Q (.bl v) m' := fun v m' e k => q v m' (by rw [e, k1, k2]; rfl) k
  refine seq_mid (J := fun e m1 => m = m1 ∧ (∃ rs, c = .tup rs ∧ rs.length ≤ 12) ∧ e = [some w, some (.str bar), some (.int n), some b', some c', none, none, none]) ?_ ?_
  · walk_at "wk"
    rw [isseq_eq hc, wp_ok]
    dsimp only
    cases c with
    | tup rs =>
      obtain ⟨_, ws, i1, i2, _⟩ := id hc
      dsimp only [isSeq]
      walk_at "wi"
      rw [lenV_items (itm_items i1), wp_lift]
      have e12 : gtV (.int ws.length) v_MOST_RULES m = some (.bl (decide ((12 : Int) < ws.length)), m) := rfl
      rw [e12, wp_lift]
      dsimp only
      by_cases c12 : (12 : Int) < ws.length
      · rw [decide_eq_true c12]
        walk_at "wi"
        refine q _ _ ?_ Kq.refl
        show _ = (decide (rs.length ≤ 12) && _)
        rw [decide_eq_false
                (by omega)]
        rfl
      · rw [decide_eq_false c12]
        walk_at "wi"
        exact ⟨trivial, ⟨rs, rfl, by omega⟩, trivial⟩
    | non => exact q _ _ rfl Kq.refl
    | bl b => exact q _ _ rfl Kq.refl
    | int i => exact q _ _ rfl Kq.refl
    | str z => exact q _ _ rfl Kq.refl
    | _ => exact hc.elim
  rintro _ _ ⟨rfl, ⟨rs, rfl, hle⟩, rfl⟩
  obtain ⟨_, ws, i1, i2, i3⟩ := id hc
  have q : ∀ (v : Bool) m', v = sideR n bar rs → Kq m m' → Q (.bl v) m' := fun v m' e k => q v m' (by rw [e]; show _ = (decide (rs.length ≤ 12) && _); rw [decide_eq_true hle]; rfl) k
  obtain ⟨wk, e1, e2, e3⟩ := walk_itm i1
  have e3 : ∀ (m' : Mem) (k : Nat), Kq m m' → wk.nx k m' = some ws[k]? := fun m' k hk => e3 m' k fun i ys _ e => hk.list e
  have e1' : ∀ m', Kq m m' → ∃ wk, walkOf c' m' = some wk ∧ wk.k = rs.length ∧ ∀ (m2 : Mem) (k : Nat), Kq m' m2 → wk.nx k m2 = some ws[k]? := fun m' hk => by
    have i1' : itm B m' c' = some ws := itm_keep i1 (Nat.le_refl _) fun i ys _ e => hk.list e
    obtain ⟨wk, f1, f2, f3⟩ := walk_itm i1'
    exact ⟨wk, f1, by rw [f2, i2], fun m2 k hk => f3 m2 k fun i ys _ e => hk.list e⟩
  refine seq_mid (J := fun e m1 => Kq m m1 ∧ rs.all (okRule n) = true ∧ e = [some w, some (.str bar), some (.int n), some b', some c', none, none, none]) ?_ ?_
  · walk_at "wk"
    rw [e1]
    dsimp only
    rw [e2, i2]
    obtain ⟨m', e, h4, h5⟩ := lc_loop (nx := wk.nx) (g := nameG 5) (t := yesB) (e := callF F_is_rule (consA (varE 5) (consA (varE 2) nilA))) (vs := [5]) (D := m.length) (env := [some w, some (.str bar), some (.int n), some b', some c', none, none, none])
      (Q := fun m' => listAt m' m.length = some ((rs.map (okRule n)).map W.bl) ∧ Kq m m') ws
      (fun k m' => listAt m' m.length = some (((rs.take k).map (okRule n)).map W.bl) ∧ Kq m m')
      (fun k m' _ j => e3 m' k j.2) (mem := m ++ [.lst []]) ⟨listAt_new, Kq.app⟩
      (fun k r m2 hx ⟨h4, h5⟩ => by
        have hk : k < rs.length := by have := (List.getElem?_eq_some_iff.mp hx).1; omega
        have hr := List.getElem?_eq_getElem hk
        walk_at "wl"
        rw [is_rule_eq ((i3 k r _ hx hr).kq h5) (by omega), wp_ok]
        refine ⟨_, h4, by rw [List.length_map, List.length_map, List.length_take]; omega, ?_, h5.set (Nat.le_refl _)⟩
        rw [listAt_set h4, take_snoc hr, List.map_append, List.map_append]
        rfl)
      (fun m' j => by rw [i2, List.take_length] at j; exact j)
    rw [i2] at e
    rw [e]
    dsimp only
    rw [allV_bls h4, wp_lift]
    have ea : (rs.map (okRule n)).all id = rs.all (okRule n) := by rw [List.all_map]; rfl
    rw [ea]
    dsimp only
    cases k3 : rs.all (okRule n) with
    | false =>
      walk_at "wi"
      exact q _ _ (sideR_no k3).symm h5
    | true =>
      walk_at "wi"
      exact ⟨h5, trivial, trivial⟩
  rintro _ m1 ⟨km1, hall, rfl⟩
  obtain ⟨qs, rfl, hqs⟩ := oks_some hall
  have hlq : qs.length ≤ 12 := by rw [List.length_map] at hle; exact hle
  have q : ∀ (v : Bool) m', v = (decide qs.Nodup && (decide (pls qs).Nodup && !decide (bar ∈ qs.map Rl.a))) → Kq m m' → Q (.bl v) m' := fun v m' e k => q v m' (by rw [e, sideR_yes hqs]) k
  have rule : ∀ (m' : Mem) (k : Nat) (r : W), Kq m m' → ws[k]? = some r → ∃ p, qs[k]? = some p ∧ itm B m' r = some [.int p.s, .str p.w, .int p.t, .str p.a] ∧ sOk p.w = true ∧ sOk p.a = true := fun m' k r hk hr => by
    have hl : k < qs.length := by
      have := (List.getElem?_eq_some_iff.mp hr).1
      rw [i2, List.length_map] at this
      exact this
    have h5 := i3 k r (qs[k]).enc hr (by rw [List.getElem?_map, List.getElem?_eq_getElem hl]; rfl)
    exact ⟨qs[k], List.getElem?_eq_getElem hl, hdn_enc (h5.kq hk)⟩
  have i2' : ws.length = qs.length := by rw [i2, List.length_map]
  -- pulled
  refine seq_mid (J := fun e m2 => ∃ i, Kq m m2 ∧ listAt m2 i = some ((pls qs).map W.int) ∧ e = [some w, some (.str bar), some (.int n), some b', some c', none, some (.loc i), none]) ?_ ?_
  · walk_at "wk"
    obtain ⟨wk, f1, f2, f3⟩ := e1' m1 km1
    rw [f1]
    dsimp only
    rw [f2, ← i2]
    obtain ⟨m', e, h4, h5⟩ := lc_loop (nx := wk.nx) (g := nameG 5) (t := tB (bin eqV (bin ixV (varE 5) (cE (.int 1))) (cE (.str "pull")))) (e := bin ixV (varE 5) (cE (.int 0))) (vs := [5]) (D := m1.length) (env := [some w, some (.str bar), some (.int n), some b', some c', none, none, none])
      (Q := fun m' => listAt m' m1.length = some ((pls qs).map W.int) ∧ Kq m1 m') ws
      (fun k m' => listAt m' m1.length = some ((pls (qs.take k)).map W.int) ∧ Kq m1 m')
      (fun k m' _ j => f3 m' k j.2) (mem := m1 ++ [.lst []]) ⟨listAt_new, Kq.app⟩
      (fun k r m2 hx ⟨h4, h5⟩ => by
        obtain ⟨p, hp, hit, hw, hpa⟩ := rule m2 k r (km1.trans h5) hx
        walk_at "wl"
        rw [show ixV r (.int 1) m2 = some (.str p.w, m2) from ix_itm (i := 1) hit rfl, wp_lift, eqV_str hw pull_ok, wp_lift]
        dsimp only
        by_cases c : pl p = true
        · have c' : (p.w == ("pull" : Str)) = true := c
          rw [if_pos c', show ixV r (.int 0) m2 = some (.int p.s, m2) from ix_itm (i := 0) hit rfl, wp_lift]
          have hlen : (pls (qs.take k)).length ≤ 12 := by
            unfold pls
            rw [List.length_map]
            refine Nat.le_trans (List.length_filter_le _ _) ?_
            rw [List.length_take]
            omega
          refine ⟨_, h4, by rw [List.length_map]; omega, ?_, h5.set (Nat.le_refl _)⟩
          rw [listAt_set h4, pls_take hp, if_pos c, List.map_append]
          rfl
        · have c' : ¬(p.w == ("pull" : Str)) = true := c
          rw [if_neg c']
          refine ⟨?_, h5⟩
          rw [h4, pls_take hp, if_neg c, List.append_nil])
      (fun m' j => by rw [i2', List.take_length] at j; exact j)
    rw [e]
    exact ⟨_, km1.trans h5, h4, rfl⟩
  rintro _ m2 ⟨ip, km2, hpu, rfl⟩
  -- acts
  refine seq_mid (J := fun e m3 => ∃ i, Kq m2 m3 ∧ listAt m3 i = some ((qs.map Rl.a).map W.str) ∧ e = [some w, some (.str bar), some (.int n), some b', some c', none, some (.loc ip), some (.loc i)]) ?_ ?_
  · walk_at "wk"
    obtain ⟨wk, f1, f2, f3⟩ := e1' m2 km2
    rw [f1]
    dsimp only
    rw [f2, ← i2]
    obtain ⟨m', e, h4, h5⟩ := lc_loop (nx := wk.nx) (g := nameG 5) (t := yesB) (e := bin ixV (varE 5) (cE (.int 3))) (vs := [5]) (D := m2.length) (env := [some w, some (.str bar), some (.int n), some b', some c', none, some (.loc ip), none])
      (Q := fun m' => listAt m' m2.length = some ((qs.map Rl.a).map W.str) ∧ Kq m2 m') ws
      (fun k m' => listAt m' m2.length = some (((qs.take k).map Rl.a).map W.str) ∧ Kq m2 m')
      (fun k m' _ j => f3 m' k j.2) (mem := m2 ++ [.lst []]) ⟨listAt_new, Kq.app⟩
      (fun k r m3 hx ⟨h4, h5⟩ => by
        obtain ⟨p, hp, hit, hw, hpa⟩ := rule m3 k r (km2.trans h5) hx
        walk_at "wl"
        rw [show ixV r (.int 3) m3 = some (.str p.a, m3) from ix_itm (i := 3) hit rfl, wp_lift]
        refine ⟨_, h4, by rw [List.length_map, List.length_map, List.length_take]; omega, ?_, h5.set (Nat.le_refl _)⟩
        rw [listAt_set h4, take_snoc hp, List.map_append, List.map_append]
        rfl)
      (fun m' j => by rw [i2', List.take_length] at j; exact j)
    rw [e]
    exact ⟨_, h5, h4, rfl⟩
  rintro _ m3 ⟨ia, km3, hac, rfl⟩
  have k03 := km2.trans km3
  walk_at "wk"
  obtain ⟨wk, f1, f2, f3⟩ := e1' m3 k03
  rw [f1]
  dsimp only
  rw [f2, ← i2]
  obtain ⟨m', e, h4, h5⟩ := lc_loop (nx := wk.nx) (g := nameG 5) (t := yesB) (e := callN tupleV (consA (varE 5) nilA)) (vs := [5]) (D := m3.length) (env := [some w, some (.str bar), some (.int n), some b', some c', none, some (.loc ip), some (.loc ia)])
    (Q := fun m' => listAt m' m3.length = some (qs.map Rl.enc) ∧ Kq m3 m') ws
    (fun k m' => listAt m' m3.length = some ((qs.take k).map Rl.enc) ∧ Kq m3 m')
    (fun k m' _ j => f3 m' k j.2) (mem := m3 ++ [.lst []]) ⟨listAt_new, Kq.app⟩
    (fun k r m4 hx ⟨h4, h5⟩ => by
      obtain ⟨p, hp, hit, hw, hpa⟩ := rule m4 k r (k03.trans h5) hx
      walk_at "wl"
      rw [tupleV_itm hit, wp_lift]
      refine ⟨_, h4, by rw [List.length_map, List.length_take]; omega, ?_, h5.set (Nat.le_refl _)⟩
      rw [listAt_set h4, take_snoc hp, List.map_append]
      rfl)
    (fun m' j => by rw [i2', List.take_length] at j; exact j)
  rw [e]
  dsimp only
  have hpl : (pls qs).length ≤ 12 := by
    unfold pls
    rw [List.length_map]
    exact Nat.le_trans (List.length_filter_le _ _) hlq
  rw [ad_rules h4 (by omega), wp_ok]
  dsimp only
  by_cases c1 : qs.Nodup
  · rw [decide_eq_true c1]
    walk_at "wi"
    rw [ad_ints (h5.list (km3.list hpu)) (by omega), wp_ok]
    dsimp only
    by_cases c2 : (pls qs).Nodup
    · rw [decide_eq_true c2]
      walk_at "wi"
      have hin : inD m' (.str bar) (.loc ia) = some (isOf (qs.map Rl.a) (.str bar)) := in_strs (B := 0) (d := 1) (x := .str bar) ⟨rfl, hb⟩ (by decide) (fun z hz => by
        obtain ⟨p, hp, rfl⟩ := List.mem_map.mp hz
        exact acts7_ok _ (hqs p hp).a) (.inr ⟨ia, rfl, h5.list hac⟩)
      unfold notInV
      rw [hin, Option.map_some, wp_lift, isOf_str]
      exact q _ _ (by rw [decide_eq_true c1, decide_eq_true c2]; rfl) (k03.trans h5)
    · rw [decide_eq_false c2]
      walk_at "wi"
      exact q _ _ (by rw [decide_eq_false c2, Bool.false_and, Bool.and_false]) (k03.trans h5)
  · rw [decide_eq_false c1]
    walk_at "wi"
    exact q _ _ (by rw [decide_eq_false c1, Bool.false_and]) (k03.trans h5)
/-! ### a protocol -/
def F_is_protocol : Fn := runB 1 (b_is_protocol F_is_row F_is_side)
def isProtB : W → Bool
  | .tup [a, b] => isSideB "tell" a && isSideB "take" b
  | _ => false
theorem tell_ok : sOk "tell" = true := by decide +kernel
theorem take_ok' : sOk "take" = true := by decide +kernel
theorem is_protocol_post {B d : Nat} {m : Mem} {w x : W} {Q : W → Mem → Prop} {ex : Exc → Mem → Prop} (h : hdn B (d + 5) m w x) (hd : d ≤ 50) (q : ∀ m', Kq m m' → Q (.bl (isProtB x)) m') : (F_is_protocol [w] m).Post Q ex := by
  unfold F_is_protocol
  refine Eq.mpr wr_run ?_
  delta b_is_protocol
  walk_at "wk"
  have hrow : F_is_row [w, .int 2] m = .ok (.bl (isRow 2 x)) m := isrow_eq (n := 2) h
  rw [hrow, wp_ok]
  dsimp only
  by_cases c : isRow 2 x = true
  · rw [c]
    cases x with
    | tup xs =>
      have hx : xs.length = 2 := beq_iff_eq.mp c
      match xs, hx with
      | [a, b], _ =>
        obtain ⟨h0, ws, h1, h2, h3⟩ := h
        match ws, h2 with
        | [a', b'], _ =>
          have ha := h3 0 a' a rfl rfl
          have hb := h3 1 b' b rfl rfl
          walk_at "wk"
          rw [show ixV w (.int 0) m = some (a', m) from ix_itm (i := 0) h1 rfl, wp_lift]
          refine is_side_post ha hd tell_ok fun m' k1 => ?_
          dsimp only
          have q' : ∀ m', Kq m m' → Q (.bl (isSideB "tell" a && isSideB "take" b)) m' := q
          cases k : isSideB (Str.ofString "tell") a with
          | false =>
            have := q' m' k1
            rw [show isSideB "tell" a = false from k] at this
            exact this
          | true =>
            walk_at "wk"
            have i1' : itm B m' w = some [a', b'] := itm_keep h1 (Nat.le_refl _) fun i ys _ e => k1.list e
            rw [show ixV w (.int 1) m' = some (b', m') from ix_itm (i := 1) i1' rfl, wp_lift]
            refine is_side_post (hb.kq k1) hd take_ok' fun m2 k2 => ?_
            have := q' m2 (k1.trans k2)
            rw [show isSideB "tell" a = true from k, Bool.true_and] at this
            exact this
    | _ => cases c
  · rw [Bool.not_eq_true] at c
    rw [c]
    have : isProtB x = false := by
      cases x with
      | tup xs =>
        match xs with
        | [] => rfl
        | [_] => rfl
        | [_, _] => cases c
        | _ :: _ :: _ :: _ => rfl
      | _ => rfl
    have q' := q m Kq.refl
    rw [this] at q'
    exact q'
end Sh
set_option linter.all false
set_option maxRecDepth 100000
set_option
        maxHeartbeats 4000000
/-! MS: the law's own look at a side. -/
namespace Sh
open PySem PySem.Spec
        PyProof.Rows L2
local macro_rules | `(tactic| walk_at "wk") => `(tactic| try simp only [wr_run, ws_seq, ws_ret, ws_retN, ws_next, ws_brk, ws_ct, ws_drop, ws_set, ws_if, ws_asg, ws_par, ws_aug, ws_for, wp_ok, wp_bad, wp_pure, wp_bind, wp_lift, wp_lift0, wp_var, wp_c, wp_bin, wp_un, wp_callN, wp_callF, wp_nil, wp_cons, wp_tup, wp_lst, wp_andV, wp_orV, wp_notV, wp_ifE, wp_tB, wp_andB, wp_orB, wp_notB, wp_chain, wp_optN, wp_optS, wp_slice, wp_meth, wp_lr, wp_lc, wp_seqI, wp_rng1, wg_name, wg_nil, wg_cons, wg_seq, wg_sub, startE, List.map_cons, List.map_nil, List.length_cons, List.length_nil, List.getElem?_cons_zero, List.getElem?_cons_succ, List.cons_append, List.nil_append, List.set_cons_zero, List.set_cons_succ, List.replicate_succ, List.replicate_zero, Nat.reduceSub, Nat.reduceAdd, isB, if_true, if_false, Bool.false_eq_true, Bool.not_true, Bool.not_false, reduceIte, yesB])
local macro_rules | `(tactic| walk_at "wi") => `(tactic| simp only [isT_tup, isB_tup, isI_tup, isS_tup, isL_tup, isT_bl, isB_bl, isI_bl, isS_bl, isL_bl, isT_int, isB_int, isI_int, isS_int, isL_int, isT_str, isB_str, isI_str, isS_str, isL_str, isT_non, isB_non, isI_non, isS_non, isL_non, isV_tup, isV_bl, isV_int, isV_str, isV_non, len_tup, tup_tup, eqV_bl, eqV_int, ne_int, addV_int, subV_int, gtV_int, ltV_int, leV_int, geV_int, intV_int, wp_lift, Bool.or_true, Bool.true_or, Bool.or_false, Bool.false_or, Bool.and_true, Bool.true_and, Bool.false_and, Bool.and_false, Bool.not_true, Bool.not_false, Bool.false_eq_true, if_true, if_false, reduceIte, beq_self_eq_true])
def sB (f__law_whole f__law_whens f__law_acts : Fn) : SS := (seqS (setS 4 (bin ixV (bin ixV (varE 0) (cE (.int 2))) (varE 3))) (seqS (ifS (orB (notB (tB (callN isiV (consA (varE 4) (consA (cE (.ty "tuple")) nilA))))) (orB (tB (bin neV (callN lenV (consA (varE 4) nilA)) (cE (.int 4)))) (orB (notB (tB (callF f__law_whole (consA (bin ixV (varE 4) (cE (.int 0))) nilA)))) (notB (tB (callF f__law_whole (consA (bin ixV (varE 4) (cE (.int 2))) nilA))))))) (retS (cE (.bl false))) nextS) (seqS (ifS (orB (notB (tB (chainE leV ltV (cE (.int 0)) (bin ixV (varE 4) (cE (.int 0))) (bin ixV (varE 0) (cE (.int 0)))))) (orB (notB (tB (chainE leV ltV (cE (.int 0)) (bin ixV (varE 4) (cE (.int 2))) (bin ixV (varE 0) (cE (.int 0)))))) (orB (notB (tB (callN isiV (consA (bin ixV (varE 4) (cE (.int 1))) (consA (cE (.ty "str")) nilA))))) (notB (tB (callN isiV (consA (bin ixV (varE 4) (cE (.int 3))) (consA (cE (.ty "str")) nilA)))))))) (retS (cE (.bl false))) nextS) (seqS (ifS (orB (tB (bin notInV (bin ixV (varE 4) (cE (.int 1))) (callF f__law_whens nilA))) (orB (tB (bin notInV (bin ixV (varE 4) (cE (.int 3))) (callF f__law_acts (consA (varE 1) nilA)))) (tB (bin inV2 (varE 4) (sliceE (bin ixV (varE 0) (cE (.int 2))) none (some (varE 3))))))) (retS (cE (.bl false))) nextS) (seqS (ifS (andB (tB (bin eqV (bin ixV (varE 4) (cE (.int 1))) (cE (.str "pull")))) (orB (tB (bin neV (bin ixV (varE 4) (cE (.int 3))) (cE (.str "none")))) (tB (bin inV2 (bin ixV (varE 4) (cE (.int 0))) (varE 2))))) (retS (cE (.bl false))) nextS) (ifS (tB (bin eqV (bin ixV (varE 4) (cE (.int 1))) (cE (.str "pull")))) (dropS (methE chkL appendV (varE 2) (consA (bin ixV (varE 4) (cE (.int 0))) nilA))) nextS))))))
theorem b_lside_eq (f__law_whole f__law_whens f__law_acts : Fn) : b__law_is_side f__law_whole f__law_whens f__law_acts = (seqS (ifS (orB (notB (tB (callN isiV (consA (varE 0) (consA (cE (.ty "tuple")) nilA))))) (orB (tB (bin neV (callN lenV (consA (varE 0) nilA)) (cE (.int 3)))) (orB (notB (tB (callF f__law_whole (consA (bin ixV (varE 0) (cE (.int 0))) nilA)))) (notB (tB (chainE leV leV (cE (.int 1)) (bin ixV (varE 0) (cE (.int 0))) (cE (.int 5)))))))) (retS (cE (.bl false))) nextS) (seqS (ifS (orB (notB (tB (callF f__law_whole (consA (bin ixV (varE 0) (cE (.int 1))) nilA)))) (orB (notB (tB (chainE leV ltV (cE (.int 0)) (bin ixV (varE 0) (cE (.int 1))) (bin ixV (varE 0) (cE (.int 0)))))) (orB (notB (tB (callN isiV (consA (bin ixV (varE 0) (cE (.int 2))) (consA (cE (.ty "tuple")) nilA))))) (tB (bin gtV (callN lenV (consA (bin ixV (varE 0) (cE (.int 2))) nilA)) (cE (.int 12))))))) (retS (cE (.bl false))) nextS) (seqS (setS 2 (lstE nilA)) (seqS (forS (rng1I (consA (callN lenV (consA (bin ixV (varE 0) (cE (.int 2))) nilA)) nilA)) (nameG 3) (sB f__law_whole f__law_whens f__law_acts)) (retS (cE (.bl true))))))) := rfl
def F_whole : Fn := runB 1 b__law_whole
theorem whole_eq {d : Nat} {m : Mem} {x : W} (h : pln d x) : F_whole [x] m = .ok (.bl (isIntW x)) m := isint_eq (B := 0) (hdn_refl h)
def barOf (host : Bool) : Str := if host then "tell" else "take"
theorem ac_bar : ∀ host, ∀ a ∈ ACTS7, (a ∈ AC host ↔ a ≠ barOf host) := by decide +kernel
theorem ac_seven : ∀ host, ∀ a ∈ AC host, a ∈ ACTS7 := by decide +kernel
def stepOk (n : Int) (host : Bool) (qs : List Rl) (r : W) : Bool := match dec r with
  | some q => decide (RlOk n host q ∧ q ∉ qs ∧ (pl q = true → q.s ∉ pls qs))
  | none => false
structure GoodS (n : Int) (host : Bool) (qs : List Rl) : Prop where
  ok : ∀ q ∈ qs, RlOk n host q
  nd : qs.Nodup
  pl : (pls qs).Nodup
theorem RlOk.seven {n : Int} {host : Bool} {q : Rl} (h : RlOk n host q) : Rl7 n q := ⟨h.s0, h.s1, h.w, h.t0, h.t1, ac_seven host _ h.a, h.p⟩
theorem good_side {n : Int} {host : Bool} {qs : List Rl} (h : GoodS n host qs) : sideR n (barOf host) (qs.map Rl.enc) = true := by
  rw [sideR_yes fun q hq => (h.ok q hq).seven, decide_eq_true h.nd, decide_eq_true h.pl]
  have : barOf host ∉ qs.map Rl.a := fun z => by
    obtain ⟨q, hq, e⟩ := List.mem_map.mp z
    have := h.ok q hq
    exact (ac_bar host q.a this.seven.a).mp this.a e
  rw [decide_eq_false this]
  rfl
theorem side_some {n : Int} {host : Bool} {rs : List W} (h : sideR n (barOf host) rs = true) : ∃ qs, rs = qs.map Rl.enc ∧ GoodS n host qs := by
  cases ha : rs.all (okRule n) with
  | false => rw [sideR_no ha] at h; cases h
  | true =>
    obtain ⟨qs, rfl, hqs⟩ := oks_some ha
    rw [sideR_yes hqs, Bool.and_eq_true, Bool.and_eq_true, decide_eq_true_iff, decide_eq_true_iff, Bool.not_eq_true', decide_eq_false_iff_not] at h
    obtain ⟨h1, h2, h3⟩ := h
    refine ⟨qs, rfl, ⟨fun q hq => ?_, h1, h2⟩⟩
    have := hqs q hq
    exact ⟨this.s0, this.s1, this.w, this.t0, this.t1, (ac_bar host q.a this.a).mpr fun e => h3 (e ▸ List.mem_map.mpr ⟨q, hq, rfl⟩), this.p⟩
theorem enc_inj {q r : Rl} (h : q.enc = r.enc) : q = r := by
  have := congrArg dec h
  rw [dec_enc, dec_enc] at this
  exact Option.some.inj this
theorem map_enc_inj : ∀ {a b : List Rl}, a.map Rl.enc = b.map Rl.enc → a = b
  | [], [], _ => rfl
  | [], _ :: _, h => by cases h
  | _ :: _, [], h => by cases h
  | x :: xs, y :: ys, h => by
    rw [List.map_cons,
            List.map_cons] at h
    injection h with h1 h2
    rw [enc_inj h1, map_enc_inj h2]
/-- a step that fails -/
theorem step_no {n : Int} {host : Bool} {rs : List W} {qs : List Rl} {k : Nat} {r : W} (hr : rs[k]? = some r) (ht : rs.take k = qs.map Rl.enc) (h : stepOk n host qs r = false) : sideR n (barOf host) rs = false := by
  cases hs : sideR n (barOf host) rs with
  | false => rfl
  | true =>
    exfalso
    obtain ⟨ps, rfl, g⟩ := side_some hs
    obtain ⟨q, hq, rfl⟩ := getL hr
    rw [← List.map_take] at ht
    have e : ps.take k = qs := map_enc_inj ht
    have hq1 := g.ok q (List.mem_of_getElem? hq)
    have sn := take_snoc hq
    rw [e] at sn
    have nd : (qs ++ [q]).Nodup := by rw [← sn]; exact g.nd.sublist (List.take_sublist _ _)
    have h1 : q ∉ qs := fun z => by
      rw [List.nodup_append] at nd
      exact nd.2.2 q z q List.mem_cons_self rfl
    have h2 : pl q = true → q.s ∉ pls qs := fun c z => by
      have n2 : (pls (qs ++ [q])).Nodup := by
        rw [← sn]
        exact g.pl.sublist (((List.take_sublist _ _).filter _).map _)
      rw [pls_snoc, if_pos c, List.nodup_append] at n2
      exact n2.2.2 q.s z q.s List.mem_cons_self rfl
    have : stepOk n host qs q.enc = true := decide_eq_true ⟨hq1, h1, h2⟩
    rw [this] at h
    cases h
theorem good_step {n : Int} {host : Bool} {qs : List Rl} {q : Rl} (g : GoodS n host qs) (h : stepOk n host qs q.enc = true) : GoodS n host (qs ++ [q]) := by
  obtain ⟨h1, h2, h3⟩ := of_decide_eq_true h
  refine ⟨snoc_ok g.ok h1, nodup_snoc g.nd h2, ?_⟩
  rw [pls_snoc]
  by_cases c : pl q = true
  · rw [if_pos c]; exact nodup_snoc g.pl (h3 c)
  · rw [if_neg c, List.append_nil]; exact g.pl
/-- a rule among a tuple of rules -/
theorem in_rules_tup {m : Mem} {r : Rl} {rs : List Rl} (hr : r.sOk = true) (hs : ∀ x ∈ rs, x.sOk = true) : inD m r.enc (.tup (rs.map Rl.enc)) = some (decide (r ∈ rs)) := by
  have e1 : toM m r.enc = some r.dat := enc_dat r m 63
  have e2 : toM m (.tup (rs.map Rl.enc)) = some (.tuple (rs.map Rl.dat)) := by
    show ((rs.map Rl.enc).mapM (toN m (62 + 2))).map PyData.tuple = _
    rw [encs_dat]
    rfl
  have s2 := dats_shaped hs
  unfold inD
  rw [e1, e2]
  show (if (SeqAt.shaped r.dat && SeqAt.shaped (.tuple (rs.map Rl.dat))) = true then some ((rs.map Rl.dat).any fun z => PyData.eqv z r.dat) else none) = _
  have sh : SeqAt.shaped (.tuple (rs.map Rl.dat)) = true := by
    show (PyData.canLay0 (.tuple (rs.map Rl.dat)) && decide (PyData.depth (.tuple (rs.map Rl.dat)) ≤ 64)) = true
    rw [Bool.and_eq_true]
    exact ⟨by simp only [PyData.canLay0]; exact s2.1, decide_eq_true (by simp only [PyData.depth]; omega)⟩
  rw [dat_shaped hr, sh, any_dat]
  rfl
theorem cut_take {rs : List W} {k : Nat} (h : k ≤ rs.length) : cutW rs none (some ((k : Nat) : Int)) = rs.take k := by
  unfold cutW
  rw [HT.sIx_none, HT.sIx_nat, List.drop_zero, Nat.min_eq_left h, Nat.sub_zero]
theorem stepOk_non {n : Int} {host : Bool} {qs : List Rl} {r : W} (h : dec r = none) : stepOk n host qs r = false := by
  unfold stepOk
  rw [h]
theorem stepOk_not {n : Int} {host : Bool} {qs : List Rl} {q : Rl} (h : ¬(RlOk n host q ∧ q ∉ qs ∧ (Sh.pl q = true → q.s ∉ pls qs))) : stepOk n host qs q.enc = false := decide_eq_false h
theorem dec_len {xs : List W} (h : xs.length ≠ 4) : dec (.tup xs) = none := by
  cases e : dec (.tup xs) with
  | none => rfl
  | some q =>
    unfold dec at e
    split at e
    · rename_i h1
      cases h1
      exact absurd rfl h
    · cases e
theorem dec_a {a b c e : W} (h : isIntW a = false) : dec (.tup [a, b, c, e]) = none := by
  cases a with
  | int i => cases h
  | _ => rfl
theorem dec_c {a b c e : W} (h : isIntW c = false) : dec (.tup [a, b, c, e]) = none := by
  cases c with
  | int i => cases h
  | _ => cases a <;> first | rfl | (cases b <;> rfl)
theorem dec_b {s t : Int} {b e : W} (h : ∀ z, b ≠ .str z) : dec (.tup [.int s, b, .int t, e]) = none := by
  cases b with
  | str z => exact absurd rfl (h z)
  | _ => rfl
theorem dec_e {s t : Int} {w : Str} {e : W} (h : ∀ z, e ≠ .str z) : dec (.tup [.int s, .str w, .int t, e]) = none := by
  cases e with
  | str z => exact absurd rfl (h z)
  | _ => rfl
theorem isS_pln {d : Nat} {m : Mem} {x : W} (h : pln d x) : ∃ b, isiV [x, .ty "str"] m = some (.bl b, m) ∧ (b = false → ∀ z, x ≠ .str z) ∧ (b = true → ∃ z, x = .str z ∧ sOk z = true) := by
  cases d with
  | zero => exact h.elim
  | succ d =>
    cases x with
    | tup xs => exact ⟨false, isS_tup, fun _ z e => (by cases e), fun e => (by cases e)⟩
    | non => exact ⟨false, isS_non, fun _ z e => (by cases e), fun e => (by cases e)⟩
    | bl b => exact ⟨false, isS_bl, fun _ z e => (by cases e), fun e => (by cases e)⟩
    | int i => exact ⟨false, isS_int, fun _ z e => (by cases e), fun e => (by cases e)⟩
    | str z => exact ⟨true, isS_str, fun e => (by cases e), fun _ => ⟨z, rfl, h⟩⟩
    | _ => exact h.elim
theorem sB_post {d k L : Nat} {n b : Int} {host : Bool} {rs : List W} {r : W} {qs : List Rl} {x4 : Option W} {m0 m : Mem} {q2 : SQ} (hr : rs[k]? = some r) (hp : pln (d + 1) r) (ht : rs.take k = qs.map Rl.enc) (g : GoodS n host qs) (hq : qs.length ≤ 12) (hl : listAt m L = some ((pls qs).map W.int)) (hL : m0.length ≤ L) (hk : Kq m0 m)
    (qf : ∀ m', stepOk n host qs r = false → Kq m0 m' → q2.rt (.bl false) m')
    (qt : ∀ q m' x4, r = q.enc → stepOk n host qs r = true → listAt m' L = some ((pls (qs ++ [q])).map W.int) → Kq m0 m' → q2.nx [some (.tup [.int n, .int b, .tup rs]), some (.bl host), some (.loc L), some (.int (k : Nat)), x4] m') :
    (sB F_whole F_whens F_acts [some (.tup [.int n, .int b, .tup rs]), some (.bl host), some (.loc L), some (.int (k : Nat)), x4] m).Post q2 := by
  have hsz : sizeLine = 16777216 := sizeLine_eq
  have hkl := (List.getElem?_eq_some_iff.mp hr).1
  unfold sB
  refine seq_mid (J := fun e m1 => m = m1 ∧ e = [some (.tup [.int n, .int b, .tup rs]), some (.bl host), some (.loc L), some (.int (k : Nat)), some r]) ?_ ?_
  · walk_at "wk"
    rw [show ixV (.tup [.int n, .int b, .tup rs]) (.int 2) m = some (.tup rs, m) from rfl, wp_lift, ixV_tup hr, wp_lift]
    exact ⟨rfl, rfl⟩
  rintro _ _ ⟨rfl, rfl⟩
  refine seq_mid (J := fun e m1 => m = m1 ∧ (∃ s b1 t b2, r = .tup [.int s, b1, .int t, b2]) ∧ e = [some (.tup [.int n, .int b, .tup rs]), some (.bl host), some (.loc L), some (.int (k : Nat)), some r]) ?_ ?_
  · walk_at "wk"
    cases r with
    | tup xs =>
      walk_at "wi"
      by_cases c : xs.length = 4
      · match xs, c with
        | [a, b1, c1, b2], _ =>
          have ha : pln d a := hp.2 a (by simp)
          have hc : pln d c1 := hp.2 c1 (by simp)
          have e4 : ((([a, b1, c1, b2] : List W).length : Int) == 4) = true := rfl
          rw [e4]
          walk_at "wi"
          rw [show ixV (.tup [a, b1, c1, b2]) (.int 0) m = some (a, m) from rfl, wp_lift, whole_eq ha, wp_ok]
          dsimp only
          cases ka : isIntW a with
          | false => walk_at "wi"; exact qf _ (stepOk_non (dec_a ka)) hk
          | true =>
            walk_at "wi"
            rw [show ixV (.tup [a, b1, c1, b2]) (.int 2) m = some (c1, m) from rfl, wp_lift, whole_eq hc, wp_ok]
            dsimp only
            cases kc : isIntW c1 with
            | false => walk_at "wi"; exact qf _ (stepOk_non (dec_c kc)) hk
            | true =>
              walk_at "wi"
              cases a with
              | int s =>
                cases c1 with
                | int t => exact ⟨trivial, ⟨s, b1, t, b2, rfl⟩, trivial⟩
                | _ => cases kc
              | _ => cases ka
      · have e4 : ((xs.length : Int) == 4) = false := beq_eq_false_iff_ne.mpr (by omega)
        rw [e4]
        walk_at "wi"
        exact qf _ (stepOk_non (dec_len c)) hk
    | non => walk_at "wi"; exact qf _ rfl hk
    | bl b => walk_at "wi"; exact qf _ rfl hk
    | int i => walk_at "wi"; exact qf _ rfl hk
    | str z => walk_at "wi"; exact qf _ rfl hk
    | _ => exact hp.elim
  rintro _ _ ⟨rfl, ⟨s, b1, t, b2, rfl⟩, rfl⟩
  have hb1 : pln d b1 := hp.2 b1 (by simp)
  have hb2 : pln d b2 := hp.2 b2 (by simp)
  refine seq_mid (J := fun e m1 => m = m1 ∧ (∃ w a, b1 = .str w ∧ b2 = .str a ∧ sOk w = true ∧ sOk a = true ∧ 0 ≤ s ∧ s < n ∧ 0 ≤ t ∧ t < n) ∧ e = [some (.tup [.int n, .int b, .tup rs]), some (.bl host), some (.loc L), some (.int (k : Nat)), some (.tup [.int s, b1, .int t, b2])]) ?_ ?_
  · have no : ¬(0 ≤ s ∧ s < n ∧ 0 ≤ t ∧ t < n) → stepOk n host qs (.tup [.int s, b1, .int t, b2]) = false := fun h => by
      cases hd : dec (.tup [.int s, b1, .int t, b2]) with
      | none => exact stepOk_non hd
      | some q =>
        have e : q.s = s ∧ q.t = t := by
          cases b1 with
          | str w =>
            cases b2 with
            | str a => cases hd; exact ⟨rfl, rfl⟩
            | _ => cases hd
          | _ => cases hd
        unfold stepOk
        rw [hd]
        dsimp only
        apply decide_eq_false
        rintro ⟨h1, _⟩
        exact h ⟨e.1 ▸ h1.s0, e.1 ▸ h1.s1, e.2 ▸ h1.t0, e.2 ▸ h1.t1⟩
    walk_at "wk"
    rw [show ixV (.tup [.int s, b1, .int t, b2]) (.int 0) m = some (.int s, m) from rfl, wp_lift, leV_int, wp_lift]
    dsimp only
    have hn0 : ixV (.tup [.int n, .int b, .tup rs]) (.int 0) m = some (.int n, m) := rfl
    by_cases c1 : (0 : Int) ≤ s
    · rw [decide_eq_true c1]
      walk_at "wi"
      rw [hn0, wp_lift, ltV_int, wp_lift]
      dsimp only
      by_cases c2 : s < n
      · rw [decide_eq_true c2]
        walk_at "wi"
        rw [show ixV (.tup [.int s, b1, .int t, b2]) (.int 2) m = some (.int t, m) from rfl, wp_lift, leV_int, wp_lift]
        dsimp only
        by_cases c3 : (0 : Int) ≤ t
        · rw [decide_eq_true c3]
          walk_at "wi"
          rw [hn0, wp_lift, ltV_int, wp_lift]
          dsimp only
          by_cases c4 : t < n
          · rw [decide_eq_true c4]
            walk_at "wi"
            rw [show ixV (.tup [.int s, b1, .int t, b2]) (.int 1) m = some (b1, m) from rfl, wp_lift]
            obtain ⟨v1, f1, f2, f3⟩ := isS_pln (m := m) hb1
            rw [f1, wp_lift]
            dsimp only
            cases v1 with
            | false => walk_at "wi"; exact qf _ (stepOk_non (dec_b (f2 rfl))) hk
            | true =>
              obtain ⟨w, rfl, hw⟩ := f3 rfl
              walk_at "wi"
              rw [show ixV (.tup [.int s, .str w, .int t, b2]) (.int 3) m = some (b2, m) from rfl, wp_lift]
              obtain ⟨v2, i1, i2, i3⟩ := isS_pln (m := m) hb2
              rw [i1, wp_lift]
              dsimp only
              cases v2 with
              | false => walk_at "wi"; exact qf _ (stepOk_non (dec_e (i2 rfl))) hk
              | true =>
                obtain ⟨a, rfl, ha⟩ := i3 rfl
                walk_at "wi"
                exact ⟨trivial, ⟨w, a, rfl, rfl, hw, ha, c1, c2, c3, c4⟩, trivial⟩
          · rw [decide_eq_false c4]
            walk_at "wi"
            exact qf _ (no fun h => c4 h.2.2.2) hk
        · rw [decide_eq_false c3]
          walk_at "wi"
          exact qf _ (no fun h => c3 h.2.2.1) hk
      · rw [decide_eq_false c2]
        walk_at "wi"
        exact qf _ (no fun h => c2 h.2.1) hk
    · rw [decide_eq_false c1]
      walk_at "wi"
      exact qf _ (no fun h => c1 h.1) hk
  rintro _ _ ⟨rfl, ⟨w, a, rfl, rfl, hw, ha, s0, s1, t0, t1⟩, rfl⟩
  have enc : W.tup [.int s, .str w, .int t, .str a] = Rl.enc ⟨s, w, t, a⟩ := rfl
  generalize hqq : (⟨s, w, t, a⟩ : Rl) = p at enc
  have ps : p.s = s := by rw [← hqq]
  have pw : p.w = w := by rw [← hqq]
  have pt : p.t = t := by rw [← hqq]
  have pa : p.a = a := by rw [← hqq]
  have psok : p.sOk = true := by unfold Rl.sOk; rw [pw, pa, hw, ha]; rfl
  have qsok : ∀ x ∈ qs, x.sOk = true := fun x hx => (g.ok x hx).sok
  have no : ¬(RlOk n host p ∧ p ∉ qs ∧ (Sh.pl p = true → p.s ∉ pls qs)) → stepOk n host qs (.tup [.int s, .str w, .int t, .str a]) = false := fun h => by rw [enc]; exact stepOk_not h
  refine seq_mid (J := fun e m1 => Kq m m1 ∧ (w ∈ WH ∧ a ∈ AC host ∧ p ∉ qs) ∧ e = [some (.tup [.int n, .int b, .tup rs]), some (.bl host), some (.loc L), some (.int (k : Nat)), some (.tup [.int s, .str w, .int t, .str a])]) ?_ ?_
  · walk_at "wk"
    rw [show ixV (.tup [.int s, .str w, .int t, .str a]) (.int 1) m = some (.str w, m) from rfl, wp_lift, whens_eq, wp_ok]
    have w1 : inD (m ++ [Cell.lst (WH.map W.str)]) (.str w) (.loc m.length) = some (isOf WH (.str w)) := in_strs (B := 0) (d := 1) (x := .str w) ⟨rfl, hw⟩ (by decide) wh_ok (.inr ⟨_, rfl, listAt_new⟩)
    unfold notInV
    rw [w1, Option.map_some, wp_lift, isOf_str]
    dsimp only
    by_cases c1 : w ∈ WH
    · rw [decide_eq_true c1]
      walk_at "wi"
      rw [show ∀ m, ixV (.tup [.int s, .str w, .int t, .str a]) (.int 3) m = some (.str a, m) from fun _ => rfl, wp_lift, acts_eq, wp_ok]
      have w2 : inD (m ++ [Cell.lst (WH.map W.str)] ++ [Cell.lst ((AC host).map W.str)]) (.str a) (.loc (m ++ [Cell.lst (WH.map W.str)]).length) = some (isOf (AC host) (.str a)) := in_strs (B := 0) (d := 1) (x := .str a) ⟨rfl, ha⟩ (by decide) (ac_ok host) (.inr ⟨_, rfl, listAt_new⟩)
      rw [w2, Option.map_some, wp_lift, isOf_str]
      dsimp only
      by_cases c2 : a ∈ AC host
      · rw [decide_eq_true c2]
        walk_at "wi"
        rw [show ∀ m, ixV (.tup [.int n, .int b, .tup rs]) (.int 2) m = some (.tup rs, m) from fun _ => rfl, wp_lift]
        rw [slV_tup, wp_lift, cut_take (by omega), ht, enc]
        unfold inV2
        rw [in_rules_tup psok qsok, Option.map_some, wp_lift]
        dsimp only
        by_cases c3 : p ∈ qs
        · rw [decide_eq_true c3]
          walk_at "wi"
          exact qf _ (no fun h => h.2.1 c3) ((hk.trans Kq.app).trans Kq.app)
        · rw [decide_eq_false c3]
          walk_at "wi"
          exact ⟨Kq.app.trans Kq.app, ⟨c1, c2, c3⟩, trivial⟩
      · rw [decide_eq_false c2]
        walk_at "wi"
        exact qf _ (no fun h => c2 (pa ▸ h.1.a)) ((hk.trans Kq.app).trans Kq.app)
    · rw [decide_eq_false c1]
      walk_at "wi"
      exact qf _ (no fun h => c1 (pw ▸ h.1.w)) (hk.trans Kq.app)
  rintro _ m1 ⟨k1, ⟨c1, c2, c3⟩, rfl⟩
  have hl1 := k1.list hl
  have hk1 := hk.trans k1
  refine seq_mid (J := fun e m2 => m1 = m2 ∧ (Sh.pl p = true → a = "none" ∧ p.s ∉ pls qs) ∧ e = [some (.tup [.int n, .int b, .tup rs]), some (.bl host), some (.loc L), some (.int (k : Nat)), some (.tup [.int s, .str w, .int t, .str a])]) ?_ ?_
  · walk_at "wk"
    rw [show ixV (.tup [.int s, .str w, .int t, .str a]) (.int 1) m1 = some (.str w, m1) from rfl, wp_lift, eqV_str hw pull_ok, wp_lift]
    dsimp only
    by_cases c4 : (w == ("pull" : Str)) = true
    · rw [if_pos c4, show ixV (.tup [.int s, .str w, .int t, .str a]) (.int 3) m1 = some (.str a, m1) from rfl, wp_lift, ne_str ha (by decide +kernel), wp_lift]
      dsimp only
      by_cases c5 : (a == ("none" : Str)) = true
      · rw [c5]
        walk_at "wi"
        rw [show ixV (.tup [.int s, .str w, .int t, .str a]) (.int 0) m1 = some (.int s, m1) from rfl, wp_lift]
        unfold inV2
        rw [in_ints hl1, Option.map_some, wp_lift]
        dsimp only
        by_cases c6 : s ∈ pls qs
        · rw [decide_eq_true c6]
          walk_at "wi"
          refine qf _ (no fun h => h.2.2 ?_ (ps ▸ c6)) hk1
          show (p.w == ("pull" : Str)) = true
          rw [pw]
          exact c4
        · rw [decide_eq_false c6]
          walk_at "wi"
          exact ⟨trivial, fun _ => ⟨beq_iff_eq.mp c5, ps ▸ c6⟩, trivial⟩
      · rw [Bool.not_eq_true] at c5
        rw [c5]
        walk_at "wi"
        refine qf _ (no fun h => ?_) hk1
        have := h.1.p (by rw [pw]; exact beq_iff_eq.mp c4)
        rw [pa] at this
        rw [this, beq_self_eq_true] at c5
        cases c5
    · rw [if_neg c4]
      walk_at "wi"
      refine ⟨trivial, fun z => absurd ?_ c4, trivial⟩
      have : (p.w == ("pull" : Str)) = true := z
      rw [pw] at this
      exact this
  rintro _ _ ⟨rfl, hpu, rfl⟩
  have yes : stepOk n host qs (.tup [.int s, .str w, .int t, .str a]) = true := by
    rw [enc]
    refine decide_eq_true ⟨⟨by rw [ps]; exact s0, by rw [ps]; exact s1, by rw [pw]; exact c1, by rw [pt]; exact t0, by rw [pt]; exact t1, by rw [pa]; exact c2, fun e => ?_⟩, c3, fun z => (hpu z).2⟩
    have : Sh.pl p = true := beq_iff_eq.mpr e
    rw [pa]
    exact (hpu this).1
  walk_at "wk"
  rw [show ixV (.tup [.int s, .str w, .int t, .str a]) (.int 1) m1 = some (.str w, m1) from rfl, wp_lift, eqV_str hw pull_ok, wp_lift]
  dsimp only
  by_cases c4 : (w == ("pull" : Str)) = true
  · rw [if_pos c4]
    refine ⟨chk_loc hl1, ?_⟩
    have hpl : (pls qs).length ≤ 12 := by
      unfold pls
      rw [List.length_map]
      exact Nat.le_trans (List.length_filter_le _ _) hq
    rw [show ixV (.tup [.int s, .str w, .int t, .str a]) (.int 0) m1 = some (.int s, m1) from rfl, wp_lift, append_int hl1 (by omega), wp_lift]
    refine qt p _ _ enc yes ?_ (hk1.set hL)
    have : Sh.pl p = true := by show (p.w == ("pull" : Str)) = true; rw [pw]; exact c4
    rw [listAt_set hl1, pls_snoc, if_pos this, ps]
  · rw [if_neg c4]
    refine qt p _ _ enc yes ?_ hk1
    have : ¬Sh.pl p = true := by show ¬(p.w == ("pull" : Str)) = true; rw [pw]; exact c4
    rw [hl1, pls_snoc, if_neg this, List.append_nil]
end Sh
set_option linter.all false
set_option maxRecDepth 100000
set_option
        maxHeartbeats 4000000
/-! MU: the law's own look at a side, at a protocol. -/
namespace Sh
open PySem PySem.Spec
        PyProof.Rows L2
local macro_rules | `(tactic| walk_at "wk") => `(tactic| try simp only [wr_run, ws_seq, ws_ret, ws_retN, ws_next, ws_brk, ws_ct, ws_drop, ws_set, ws_if, ws_asg, ws_par, ws_aug, ws_for, wp_ok, wp_bad, wp_pure, wp_bind, wp_lift, wp_lift0, wp_var, wp_c, wp_bin, wp_un, wp_callN, wp_callF, wp_nil, wp_cons, wp_tup, wp_lst, wp_andV, wp_orV, wp_notV, wp_ifE, wp_tB, wp_andB, wp_orB, wp_notB, wp_chain, wp_optN, wp_optS, wp_slice, wp_meth, wp_lr, wp_lc, wp_seqI, wp_rng1, wg_name, wg_nil, wg_cons, wg_seq, wg_sub, startE, List.map_cons, List.map_nil, List.length_cons, List.length_nil, List.getElem?_cons_zero, List.getElem?_cons_succ, List.cons_append, List.nil_append, List.set_cons_zero, List.set_cons_succ, List.replicate_succ, List.replicate_zero, Nat.reduceSub, Nat.reduceAdd, isB, if_true, if_false, Bool.false_eq_true, Bool.not_true, Bool.not_false, reduceIte, yesB])
local macro_rules | `(tactic| walk_at "wi") => `(tactic| simp only [isT_tup, isB_tup, isI_tup, isS_tup, isL_tup, isT_bl, isB_bl, isI_bl, isS_bl, isL_bl, isT_int, isB_int, isI_int, isS_int, isL_int, isT_str, isB_str, isI_str, isS_str, isL_str, isT_non, isB_non, isI_non, isS_non, isL_non, isV_tup, isV_bl, isV_int, isV_str, isV_non, len_tup, tup_tup, eqV_bl, eqV_int, ne_int, addV_int, subV_int, gtV_int, ltV_int, leV_int, geV_int, intV_int, wp_lift, Bool.or_true, Bool.true_or, Bool.or_false, Bool.false_or, Bool.and_true, Bool.true_and, Bool.false_and, Bool.and_false, Bool.not_true, Bool.not_false, Bool.false_eq_true, if_true, if_false, reduceIte, beq_self_eq_true])
def F_lis : Fn := runB 5 (b__law_is_side F_whole F_whens F_acts)
theorem side_len {bar : Str} {xs : List W} (h : xs.length ≠ 3) : isSideB bar (.tup xs) = false := by
  match xs, h with
  | [], _ => rfl
  | [_], _ => rfl
  | [_, _], _ => rfl
  | [_, _, _], h => exact absurd rfl h
  | _ :: _ :: _ :: _ :: _, _ => rfl
theorem lside_post {d : Nat} {m : Mem} {x : W} {host : Bool} {Q : W → Mem → Prop} {ex : Exc → Mem → Prop} (h : pln (d + 3) x) (q : ∀ m', Kq m m' → Q (.bl (isSideB (barOf host) x)) m') : (F_lis [x, .bl host] m).Post Q ex := by
  have hsz : sizeLine = 16777216 := sizeLine_eq
  unfold F_lis
  refine Eq.mpr wr_run ?_
  rw [b_lside_eq]
  refine seq_mid (J := fun e m1 => m = m1 ∧ (∃ n b c, x = .tup [.int n, b, c] ∧ 1 ≤ n ∧ n ≤ 5) ∧ e = [some x, some (.bl host), none, none, none]) ?_ ?_
  · walk_at "wk"
    cases x with
    | tup xs =>
      walk_at "wi"
      by_cases c : xs.length = 3
      · match xs, c with
        | [a, b, c1], _ =>
          have ha : pln (d + 2) a := h.2 a (by simp)
          have e3 : ((([a, b, c1] : List W).length : Int) == 3) = true := rfl
          rw [e3]
          walk_at "wi"
          have h0 : ixV (.tup [a, b, c1]) (.int 0) m = some (a, m) := rfl
          rw [h0, wp_lift, whole_eq ha, wp_ok]
          dsimp only
          have q : ∀ (v : Bool) m', v = (inFrom 1 5 a && (startIn a b && rulesIn (barOf host) a c1)) → Kq m m' → Q (.bl v) m' := fun v m' e k => by rw [e]; exact q m' k
          cases ka : isIntW a with
          | false =>
            walk_at "wi"
            refine q _ _ ?_ Kq.refl
            cases a with
            | int n => cases ka
            | _ => rfl
          | true =>
            cases a with
            | int n =>
              walk_at "wi"
              rw [h0, wp_lift, leV_int, wp_lift]
              dsimp only
              by_cases c1 : (1 : Int) ≤ n
              · rw [decide_eq_true c1]
                walk_at "wi"
                by_cases c5 : n ≤ 5
                · rw [decide_eq_true c5]
                  walk_at "wi"
                  exact ⟨trivial, ⟨n, b, _, rfl, c1, c5⟩, trivial⟩
                · rw [decide_eq_false c5]
                  walk_at "wi"
                  refine q _ _ ?_ Kq.refl
                  show false = ((decide (1 ≤ n) && decide (n ≤ 5)) && _)
                  rw [decide_eq_false c5, Bool.and_false, Bool.false_and]
              · rw [decide_eq_false c1]
                walk_at "wi"
                refine q _ _ ?_ Kq.refl
                show false = ((decide (1 ≤ n) && decide (n ≤ 5)) && _)
                rw [decide_eq_false c1, Bool.false_and, Bool.false_and]
            | _ => cases ka
      · have e3 : ((xs.length : Int) == 3) = false := beq_eq_false_iff_ne.mpr (by omega)
        rw [e3]
        walk_at "wi"
        have := q m Kq.refl
        rw [side_len c] at this
        exact this
    | non => walk_at "wi"; exact q m Kq.refl
    | bl b => walk_at "wi"; exact q m Kq.refl
    | int i => walk_at "wi"; exact q m Kq.refl
    | str z => walk_at "wi"; exact q m Kq.refl
    | _ => exact h.elim
  rintro _ _ ⟨rfl, ⟨n, b, c, rfl, n1, n5⟩, rfl⟩
  have k1 : inFrom 1 5 (.int n) = true := by show (decide (1 ≤ n) && decide (n ≤ 5)) = true; rw [decide_eq_true n1, decide_eq_true n5]; rfl
  have q : ∀ (v : Bool) m', v = (inFrom 0 (n - 1) b && rulesIn (barOf host) (.int n) c) → Kq m m' → Q (.bl v) m' := fun v m' e k => by
    have := q m' k
    rw [show isSideB (barOf host) (.tup [.int n, b, c]) = (inFrom 1 5 (.int n) && (inFrom 0 (n - 1) b && rulesIn (barOf host) (.int n) c)) from rfl, k1, Bool.true_and, ← e] at this
    exact this
  have hb : pln (d + 2) b := h.2 b (by simp)
  have hc : pln (d + 2) c := h.2 c (by simp)
  refine seq_mid (J := fun e m1 => m = m1 ∧ (∃ b0 rs, b = .int b0 ∧ c = .tup rs ∧ rs.length ≤ 12 ∧ inFrom 0 (n - 1) b = true) ∧ e = [some (.tup [.int n, b, c]), some (.bl host), none, none, none]) ?_ ?_
  · walk_at "wk"
    have h0 : ixV (.tup [.int n, b, c]) (.int 0) m = some (.int n, m) := rfl
    have h1 : ixV (.tup [.int n, b, c]) (.int 1) m = some (b, m) := rfl
    have h2 : ixV (.tup [.int n, b, c]) (.int 2) m = some (c, m) := rfl
    rw [h1, wp_lift, whole_eq hb, wp_ok]
    dsimp only
    cases kb : isIntW b with
    | false =>
      walk_at "wi"
      refine q _ _ ?_ Kq.refl
      cases b with
      | int i => cases kb
      | _ => rfl
    | true =>
      cases b with
      | int b0 =>
        walk_at "wi"
        rw [h1, wp_lift, leV_int, wp_lift]
        dsimp only
        by_cases c1 : (0 : Int) ≤ b0
        · rw [decide_eq_true c1]
          walk_at "wi"
          rw [h0, wp_lift, ltV_int, wp_lift]
          dsimp only
          by_cases c2 : b0 < n
          · rw [decide_eq_true c2]
            walk_at "wi"
            have kin : inFrom 0 (n - 1) (.int b0) = true := by show (decide (0 ≤ b0) && decide (b0 ≤ n - 1)) = true; rw [decide_eq_true c1, decide_eq_true (by omega)]; rfl
            rw [h2, wp_lift]
            cases c with
            | tup rs =>
              walk_at "wi"
              rw [h2, wp_lift]
              walk_at "wi"
              by_cases c12 : (12 : Int) < rs.length
              · rw [decide_eq_true c12]
                walk_at "wi"
                refine q _ _ ?_ Kq.refl
                rw [kin, Bool.true_and]
                show false = (decide (rs.length ≤ 12) && _)
                rw [decide_eq_false
                        (by omega)]
                rfl
              · rw [decide_eq_false c12]
                walk_at "wi"
                exact ⟨trivial, ⟨b0, rs, rfl, rfl, by omega, kin⟩, trivial⟩
            | non => walk_at "wi"; refine q _ _ ?_ Kq.refl; rw [kin]; rfl
            | bl b => walk_at "wi"; refine q _ _ ?_ Kq.refl; rw [kin]; rfl
            | int i => walk_at "wi"; refine q _ _ ?_ Kq.refl; rw [kin]; rfl
            | str z => walk_at "wi"; refine q _ _ ?_ Kq.refl; rw [kin]; rfl
            | _ => exact hc.elim
          · rw [decide_eq_false c2]
            walk_at "wi"
            refine q _ _ ?_ Kq.refl
            show false = ((decide (0 ≤ b0) && decide (b0 ≤ n - 1)) && _)
            rw [decide_eq_false (show ¬b0 ≤ n - 1 by omega), Bool.and_false, Bool.false_and]
        · rw [decide_eq_false c1]
          walk_at "wi"
          refine q _ _ ?_ Kq.refl
          show false = ((decide (0 ≤ b0) && decide (b0 ≤ n - 1)) && _)
          rw [decide_eq_false c1, Bool.false_and, Bool.false_and]
      | _ => cases kb
  rintro _ _ ⟨rfl, ⟨b0, rs, rfl, rfl, hle, kin⟩, rfl⟩
  have q : ∀ (v : Bool) m', v = sideR n (barOf host) rs → Kq m m' → Q (.bl v) m' := fun v m' e k => q v m' (by
    rw [kin, e, Bool.true_and]
    show _ = (decide (rs.length ≤ 12) && _)
    rw [decide_eq_true hle]
    rfl) k
  walk_at "wk"
  refine ⟨Nat.zero_le _, ?_⟩
  rw [show ∀ m, ixV (.tup [.int n, .int b0, .tup rs]) (.int 2) m = some (.tup rs, m) from fun _ => rfl, wp_lift]
  walk_at "wi"
  refine ⟨⟨by omega, by omega⟩, ?_⟩
  rw [Int.toNat_natCast]
  refine ws_range rs.length (fun k env m' => ∃ (qs : List Rl) (x3 x4 : Option W), env = [some (.tup [.int n, .int b0, .tup rs]), some (.bl host), some (.loc m.length), x3, x4] ∧ rs.take k = qs.map Rl.enc ∧ GoodS n host qs ∧ listAt m' m.length = some ((pls qs).map W.int) ∧ Kq m m') ?_ ?_ ?_
  · exact ⟨[], _, _, rfl, rfl, ⟨fun q h => (by cases h), List.nodup_nil, List.nodup_nil⟩, listAt_new, Kq.app⟩
  · rintro k env m' hk ⟨qs, x3, x4, rfl, ht, g, hl, hkq⟩
    have hr := List.getElem?_eq_getElem hk
    have hlen : qs.length = k := by
      have := congrArg List.length ht
      rw [List.length_take, List.length_map] at this
      omega
    walk_at "wk"
    rw [Int.zero_add]
    refine sB_post (d := d) hr (hc.2 _ (List.getElem_mem hk)) ht g (by omega) hl (Nat.le_refl _) hkq ?_ ?_
    · intro m2 hno hk2
      exact q _ _ (step_no hr ht hno).symm hk2
    · intro p m2 x4 hp hy hl2 hk2
      rw [hp] at hy hr
      refine ⟨qs ++ [p], _, _, rfl, ?_, good_step g hy, hl2, hk2⟩
      rw [take_snoc hr, ht, List.map_append]
      rfl
  · rintro env m' ⟨qs, x3, x4, rfl, ht, g, hl, hkq⟩
    rw [List.take_length] at ht
    subst ht
    exact q _ _ (good_side g).symm hkq
def F_lip : Fn := runB 1 (b__law_is_protocol F_lis)
theorem lprot_post {d : Nat} {m : Mem} {x : W} {Q : W → Mem → Prop} {ex : Exc → Mem → Prop} (h : pln (d + 4) x) (q : ∀ m', Kq m m' → Q (.bl (isProtB x)) m') : (F_lip [x] m).Post Q ex := by
  unfold F_lip
  refine Eq.mpr wr_run ?_
  delta b__law_is_protocol
  walk_at "wk"
  cases x with
  | tup xs =>
    walk_at "wi"
    by_cases c : xs.length = 2
    · match xs, c with
      | [a, b], _ =>
        have ha : pln (d + 3) a := h.2 a (by simp)
        have hb : pln (d + 3) b := h.2 b (by simp)
        have e2 : ((([a, b] : List W).length : Int) == 2) = true := rfl
        rw [e2]
        walk_at "wi"
        rw [show ixV (.tup [a, b]) (.int 0) m = some (a, m) from rfl, wp_lift]
        refine lside_post ha fun m' k1 => ?_
        have q' : ∀ m', Kq m m' → Q (.bl (isSideB "tell" a && isSideB "take" b)) m' := q
        show match isB (.bl (isSideB "tell" a)) with | some true => _ | some false => _ | none => _
        cases k : isSideB "tell" a with
        | false =>
          have := q' m' k1
          rw [k] at this
          exact this
        | true =>
          dsimp only [isB]
          rw [show ixV (.tup [a, b]) (.int 1) m' = some (b, m') from rfl, wp_lift]
          refine lside_post hb fun m2 k2 => ?_
          have := q' m2 (k1.trans k2)
          rw [k, Bool.true_and] at this
          exact this
    · have e2 : ((xs.length : Int) == 2) = false := beq_eq_false_iff_ne.mpr (by omega)
      rw [e2]
      walk_at "wi"
      have := q m Kq.refl
      have e : isProtB (.tup xs) = false := by
        match xs, c with
        | [], _ => rfl
        | [_], _ => rfl
        | [_, _], h => exact absurd rfl h
        | _ :: _ :: _ :: _, _ => rfl
      rw [e] at this
      exact this
  | non => walk_at "wi"; exact q m Kq.refl
  | bl b => walk_at "wi"; exact q m Kq.refl
  | int i => walk_at "wi"; exact q m Kq.refl
  | str z => walk_at "wi"; exact q m Kq.refl
  | _ => exact h.elim
end Sh
set_option linter.all false
set_option maxRecDepth 100000
set_option
        maxHeartbeats 4000000
/-! MV: the law is true. -/
namespace Sh
open PySem PySem.Spec
        PyProof.Rows L2
local macro_rules | `(tactic| walk_at "wk") => `(tactic| try simp only [wr_run, ws_seq, ws_ret, ws_retN, ws_next, ws_brk, ws_ct, ws_drop, ws_set, ws_if, ws_asg, ws_par, ws_aug, ws_for, wp_ok, wp_bad, wp_pure, wp_bind, wp_lift, wp_lift0, wp_var, wp_c, wp_bin, wp_un, wp_callN, wp_callF, wp_nil, wp_cons, wp_tup, wp_lst, wp_andV, wp_orV, wp_notV, wp_ifE, wp_tB, wp_andB, wp_orB, wp_notB, wp_chain, wp_optN, wp_optS, wp_slice, wp_meth, wp_lr, wp_lc, wp_seqI, wp_rng1, wg_name, wg_nil, wg_cons, wg_seq, wg_sub, startE, List.map_cons, List.map_nil, List.length_cons, List.length_nil, List.getElem?_cons_zero, List.getElem?_cons_succ, List.cons_append, List.nil_append, List.set_cons_zero, List.set_cons_succ, List.replicate_succ, List.replicate_zero, Nat.reduceSub, Nat.reduceAdd, isB, if_true, if_false, Bool.false_eq_true, Bool.not_true, Bool.not_false, reduceIte, yesB])
local macro_rules | `(tactic| walk_at "wi") => `(tactic| simp only [isT_tup, isB_tup, isI_tup, isS_tup, isL_tup, isT_bl, isB_bl, isI_bl, isS_bl, isL_bl, isT_int, isB_int, isI_int, isS_int, isL_int, isT_str, isB_str, isI_str, isS_str, isL_str, isT_non, isB_non, isI_non, isS_non, isL_non, isV_tup, isV_bl, isV_int, isV_str, isV_non, len_tup, tup_tup, eqV_bl, eqV_int, ne_int, addV_int, subV_int, gtV_int, ltV_int, leV_int, geV_int, intV_int, wp_lift, Bool.or_true, Bool.true_or, Bool.or_false, Bool.false_or, Bool.and_true, Bool.true_and, Bool.false_and, Bool.and_false, Bool.not_true, Bool.not_false, Bool.false_eq_true, if_true, if_false, reduceIte, beq_self_eq_true])
local macro_rules | `(tactic| walk_at "wl") => `(tactic| (try simp only [wipeE, List.set_cons_zero, List.set_cons_succ]; try walk_at "wk"))
def lw0 (f__law_numbers f__law_protocol f__law_handed f__law_so f_is_protocol f__law_tupled f__law_spoilt_protocol f__law_is_protocol f__law_whens : Fn) : SS := (seqS (setS 6 (callF f__law_spoilt_protocol (consA (varE 1) (consA (varE 2) (consA (varE 3) nilA))))) (ifS (notB (tB (callF f__law_so (consA (callF f_is_protocol (consA (callF f__law_handed (consA (varE 1) (consA (varE 2) (consA (varE 6) nilA)))) nilA)) (consA (callF f__law_is_protocol (consA (varE 6) nilA)) nilA))))) (retS (cE (.bl false))) nextS))
def lw1 (f__law_numbers f__law_protocol f__law_handed f__law_so f_is_protocol f__law_tupled f__law_spoilt_protocol f__law_is_protocol f__law_whens : Fn) : SS := (seqS (setS 9 (callN tupleV (consA (lcE (rng1I (consA (varE 8) nilA)) (nameG 10) yesB (tupE (consA (bin fdivV (varE 10) (cE (.int 6))) (consA (bin ixV (callF f__law_whens nilA) (bin modV (callN intV (consA (varE 10) nilA)) (cE (.int 6)))) (consA (cE (.int 0)) (consA (cE (.str "none")) nilA))))) [10]) nilA))) (forS (seqI (tupE (consA (tupE (consA (tupE (consA (cE (.int 3)) (consA (cE (.int 0)) (consA (varE 9) nilA)))) (consA (varE 7) nilA))) (consA (tupE (consA (varE 7) (consA (tupE (consA (cE (.int 3)) (consA (cE (.int 2)) (consA (varE 9) nilA)))) nilA))) (consA (tupE (consA (tupE (consA (cE (.int 5)) (consA (cE (.int 4)) (consA (varE 9) nilA)))) (consA (tupE (consA (cE (.int 6)) (consA (cE (.int 0)) (consA (tupE nilA) nilA)))) nilA))) nilA))))) (nameG 11) (ifS (notB (tB (callF f__law_so (consA (callF f_is_protocol (consA (callF f__law_handed (consA (varE 1) (consA (varE 2) (consA (varE 11) nilA)))) nilA)) (consA (callF f__law_is_protocol (consA (varE 11) nilA)) nilA))))) (retS (cE (.bl false))) nextS)))
def lw2 (f__law_numbers f__law_protocol f__law_handed f__law_so f_is_protocol f__law_tupled f__law_spoilt_protocol f__law_is_protocol f__law_whens : Fn) : SS := (forS (seqI (tupE (consA (tupE (consA (tupE (consA (cE (.int 2)) (consA (cE (.int 0)) (consA (varE 9) nilA)))) (consA (varE 7) nilA))) (consA (tupE (consA (varE 7) (consA (tupE (consA (cE (.int 2)) (consA (cE (.int 0)) (consA (varE 9) nilA)))) nilA))) nilA)))) (nameG 11) (ifS (notB (tB (callF f__law_so (consA (callF f_is_protocol (consA (varE 11) nilA)) (consA (callF f__law_is_protocol (consA (varE 11) nilA)) nilA))))) (retS (cE (.bl false))) nextS))
theorem b_law_eq (f__law_numbers f__law_protocol f__law_handed f__law_so f_is_protocol f__law_tupled f__law_spoilt_protocol f__law_is_protocol f__law_whens : Fn) : b_law f__law_numbers f__law_protocol f__law_handed f__law_so f_is_protocol f__law_tupled f__law_spoilt_protocol f__law_is_protocol f__law_whens = (seqS (setS 1 (callF f__law_numbers (consA (varE 0) nilA))) (seqS (setS 2 (lstE (consA (cE (.int 0)) nilA))) (seqS (setS 3 (callF f__law_protocol (consA (varE 1) (consA (varE 2) nilA)))) (seqS (setS 4 (callF f__law_handed (consA (varE 1) (consA (varE 2) (consA (varE 3) nilA))))) (seqS (ifS (orB (notB (tB (callF f__law_so (consA (callF f_is_protocol (consA (varE 4) nilA)) (consA (cE (.bl true)) nilA))))) (notB (tB (callF f__law_so (consA (callF f__law_tupled (consA (varE 4) nilA)) (consA (varE 3) nilA)))))) (retS (cE (.bl false))) nextS) (seqS (forS (rng1I (consA (cE (.int 8)) nilA)) (nameG 5) (lw0 f__law_numbers f__law_protocol f__law_handed f__law_so f_is_protocol f__law_tupled f__law_spoilt_protocol f__law_is_protocol f__law_whens)) (seqS (setS 7 (tupE (consA (cE (.int 1)) (consA (cE (.int 0)) (consA (tupE nilA) nilA))))) (seqS (forS (seqI (tupE (consA (cE (.int 11)) (consA (cE (.int 12)) (consA (cE (.int 13)) nilA))))) (nameG 8) (lw1 f__law_numbers f__law_protocol f__law_handed f__law_so f_is_protocol f__law_tupled f__law_spoilt_protocol f__law_is_protocol f__law_whens)) (seqS (forS (seqI (tupE (consA (tupE (consA (tupE (consA (cE (.int 0)) (consA (cE (.str "pull")) (consA (cE (.int 0)) (consA (cE (.str "none")) nilA))))) (consA (tupE (consA (cE (.int 0)) (consA (cE (.str "pull")) (consA (cE (.int 1)) (consA (cE (.str "none")) nilA))))) nilA))) (consA (tupE (consA (tupE (consA (cE (.int 0)) (consA (cE (.str "pull")) (consA (cE (.int 1)) (consA (cE (.str "take")) nilA))))) nilA)) (consA (tupE (consA (tupE (consA (cE (.int 0)) (consA (cE (.str "tick")) (consA (cE (.int 1)) (consA (cE (.str "tell")) nilA))))) nilA)) (consA (tupE (consA (tupE (consA (cE (.int 0)) (consA (cE (.str "tick")) (consA (cE (.int 1)) (consA (cE (.str "take")) nilA))))) nilA)) nilA)))))) (nameG 9) (lw2 f__law_numbers f__law_protocol f__law_handed f__law_so f_is_protocol f__law_tupled f__law_spoilt_protocol f__law_is_protocol f__law_whens)) (retS (cE (.bl true)))))))))))) := rfl

theorem pln_tup {d : Nat} {xs : List W} (hl : xs.length ≤ 1000) (h : ∀ y ∈ xs, pln d y) : pln (d + 1) (.tup xs) := ⟨hl, h⟩
theorem pl9_tup {d : Nat} {xs : List W} (hl : xs.length ≤ 400) (h : ∀ y ∈ xs, pl9 d y) : pl9 (d + 1) (.tup xs) := ⟨hl, h⟩
theorem rl_pl9 {n : Int} {host : Bool} {q : Rl} (h : RlOk n host q) : pl9 2 q.enc := by
  refine pl9_tup (by simp) fun y hy => ?_
  simp only [List.mem_cons, List.not_mem_nil, or_false] at hy
  rcases hy with rfl | rfl | rfl | rfl
  · trivial
  · exact wh_ok _ h.w
  · trivial
  · exact ac_ok host _ h.a
theorem sd_pl9 {host : Bool} {x : Sd} (h : SdOk host x) : pl9 4 x.enc := by
  refine pl9_tup (by simp) fun y hy => ?_
  simp only [List.mem_cons, List.not_mem_nil, or_false] at hy
  rcases hy with rfl | rfl | rfl
  · trivial
  · trivial
  · refine pl9_tup (by rw [List.length_map]; have := h.rs.le; omega) fun y hy => ?_
    obtain ⟨q, hq, rfl⟩ := List.mem_map.mp hy
    exact rl_pl9 (h.rs.ok q hq)
theorem pr_pl9 {p : Sd × Sd} (h : PrOk p) : pl9 5 (enc2 p) := by
  refine pl9_tup (by simp) fun y hy => ?_
  simp only [List.mem_cons, List.not_mem_nil, or_false] at hy
  rcases hy with rfl | rfl
  · exact sd_pl9 h.1
  · exact sd_pl9 h.2
theorem sd_side {host : Bool} {x : Sd} (h : SdOk host x) : isSideB (barOf host) x.enc = true := by
  have n1 := h.n1
  have n5 := h.n5
  have b0 := h.b0
  have b1 := h.b1
  show ((decide (1 ≤ x.n) && decide (x.n ≤ 5)) && ((decide (0 ≤ x.b) && decide (x.b ≤ x.n - 1)) && (decide ((x.rs.map Rl.enc).length ≤ 12) && sideR x.n (barOf host) (x.rs.map Rl.enc)))) = true
  rw [decide_eq_true n1, decide_eq_true n5, decide_eq_true b0, decide_eq_true (show x.b ≤ x.n - 1 by omega), decide_eq_true (by rw [List.length_map]; exact h.rs.le), good_side ⟨h.rs.ok, h.rs.nd, h.rs.pl⟩]
  rfl
theorem pr_prot {p : Sd × Sd} (h : PrOk p) : isProtB (enc2 p) = true := by
  show (isSideB (barOf true) p.1.enc && isSideB (barOf false) p.2.enc) = true
  rw [sd_side h.1, sd_side h.2]
  rfl
section
variable {row : List Int} {r s : Nat} {m : Mem}
/-- handed, asked of both -/
theorem both_post {x : W} {Q : W → Mem → Prop} {ex : Exc → Mem → Prop} (d : Dr r s row m) (h : pln 7 x) (q : ∀ m', Dr r s row m' → Kp s m m' → Q (.bl true) m') :
    (F_handed 7 [.loc r, .loc s, x] m).Post (fun w m1 => (F_is_protocol [w] m1).Post (fun w m2 => (F_lip [x] m2).Post (fun v m3 => (F_so 7 [w, v] m3).Post Q ex) ex) ex) ex := by
  refine handed_post h d fun w m1 h1 d1 k1 => ?_
  refine is_protocol_post (d := 2) h1 (by decide) fun m2 k2 => ?_
  refine lprot_post (d := 3) h fun m3 k3 => ?_
  refine so_bool ?_
  rw [beq_self_eq_true]
  exact q m3 (k3.dr (k2.dr d1)) ((k1.trans k2.kp).trans k3.kp)
/-- as it is, asked of both -/
theorem plain_post {x : W} {Q : W → Mem → Prop} {ex : Exc → Mem → Prop} (d : Dr r s row m) (h : pln 7 x) (q : ∀ m', Dr r s row m' → Kp s m m' → Q (.bl true) m') :
    (F_is_protocol [x] m).Post (fun w m2 => (F_lip [x] m2).Post (fun v m3 => (F_so 7 [w, v] m3).Post Q ex) ex) ex := by
  refine is_protocol_post (B := 0) (d := 2) (hdn_refl h) (by decide) fun m2 k2 => ?_
  refine lprot_post (d := 3) h fun m3 k3 => ?_
  refine so_bool ?_
  rw [beq_self_eq_true]
  exact q m3 (k3.dr (k2.dr d)) (k2.kp.trans k3.kp)
end
def F_law : Fn := runB 12 (b_law F_numbers F_protocol (F_handed 7) (F_so 7) F_is_protocol (F_tupled 7) (F_spoilt 5) F_lip F_whens)
/-- the law's names while it walks -/
def LawI (row : List Int) (s : Nat) (ns : List Int) (x : W) (e : VEnv) (m : Mem) : Prop := ∃ (h a c pl mn rl k v : Option W), e = [some (.rol (ns.map W.int)), some (.loc 0), some (.loc s), some x, h, a, c, pl, mn, rl, k, v] ∧ Dr 0 s row m
def LawJ (row : List Int) (s : Nat) (ns : List Int) (x : W) (e : VEnv) (m : Mem) : Prop := ∃ (h a c mn rl k v : Option W), e = [some (.rol (ns.map W.int)), some (.loc 0), some (.loc s), some x, h, a, c, some (.tup [.int 1, .int 0, .tup []]), mn, rl, k, v] ∧ Dr 0 s row m
theorem pln_plain : pln 4 (.tup [.int 1, .int 0, .tup []]) := by
  refine pln_tup (by simp) fun y hy => ?_
  simp only [List.mem_cons, List.not_mem_nil, or_false] at hy
  rcases hy with rfl | rfl | rfl
  · trivial
  · trivial
  · exact pln_tup (by simp) fun y hy => by cases hy
theorem pln_side {n b : Int} {x : W} (h : pln 3 x) : pln 4 (.tup [.int n, .int b, x]) := by
  refine pln_tup (by simp) fun y hy => ?_
  simp only [List.mem_cons, List.not_mem_nil, or_false] at hy
  rcases hy with rfl | rfl | rfl
  · trivial
  · trivial
  · exact h
theorem pln_two {x y : W} (h : pln 4 x) (k : pln 4 y) : pln 7 (.tup [x, y]) := by
  refine pln.mono (d := 5) (pln_tup (by simp) fun z hz => ?_) (by decide)
  simp only [List.mem_cons, List.not_mem_nil, or_false] at hz
  rcases hz with rfl | rfl
  · exact h
  · exact k
theorem pln_rl {s t : Int} {w a : Str} (h : sOk w = true) (k : sOk a = true) : pln 2 (.tup [.int s, .str w, .int t, .str a]) := by
  refine pln_tup (by simp) fun y hy => ?_
  simp only [List.mem_cons, List.not_mem_nil, or_false] at hy
  rcases hy with rfl | rfl | rfl | rfl
  · trivial
  · exact h
  · trivial
  · exact k
theorem law_true (ns : List Int) : ∃ m, F_law [.rol (ns.map W.int)] [] = .ok (.bl true) m := by
  suffices h : (F_law [.rol (ns.map W.int)] []).Post (fun w _ => w = .bl true) (fun _ _ => False) by
    cases e : F_law [.rol (ns.map W.int)] [] with
    | ok w m => rw [e] at h; exact ⟨m, by rw [show w = .bl true from h]⟩
    | exc x m => rw [e] at h; exact h.elim
    | bad => rw [e] at h; exact h.elim
  have hsz : sizeLine = 16777216 := sizeLine_eq
  unfold F_law
  refine Eq.mpr wr_run ?_
  rw [b_law_eq]
  refine seq_mid (J := fun e m => ∃ row : List Int, 0 < row.length ∧ listAt m 0 = some (row.map W.int) ∧ e = [some (.rol (ns.map W.int)), some (.loc 0), none, none, none, none, none, none, none, none, none, none]) ?_ ?_
  · walk_at "wk"
    exact numbers_post fun row m h1 h2 h3 => ⟨row, h1, h2, rfl⟩
  rintro _ m ⟨row, h1, h2, rfl⟩
  have hm := listAt_lt h2
  generalize hs : m.length = s at hm
  refine seq_mid (J := fun e m1 => Dr 0 s row m1 ∧ e = [some (.rol (ns.map W.int)), some (.loc 0), some (.loc s), none, none, none, none, none, none, none, none, none]) ?_ ?_
  · walk_at "wk"
    refine ⟨by rw [hsz]; decide, ⟨by omega, listAt_app h2, h1, 0, by decide, by rw [← hs]; exact listAt_new⟩, by rw [hs]⟩
  rintro _ m1 ⟨d1, rfl⟩
  refine seq_mid (J := fun e m2 => ∃ x, pl9 5 x ∧ isProtB x = true ∧ Dr 0 s row m2 ∧ e = [some (.rol (ns.map W.int)), some (.loc 0), some (.loc s), some x, none, none, none, none, none, none, none, none]) ?_ ?_
  · walk_at "wk"
    exact protocol_post d1 fun p m2 hp d2 k2 => ⟨enc2 p, pr_pl9 hp, pr_prot hp, d2, rfl⟩
  rintro _ m2 ⟨x, hp9, hpr, d2, rfl⟩
  have hp5 := hp9.pln
  have hp7 : pln 7 x := hp5.mono (by decide)
  refine seq_mid (J := fun e m3 => ∃ w, hdn m2.length 7 m3 w x ∧ Dr 0 s row m3 ∧ e = [some (.rol (ns.map W.int)), some (.loc 0), some (.loc s), some x, some w, none, none, none, none, none, none, none]) ?_ ?_
  · walk_at "wk"
    exact handed_post hp7 d2 fun w m3 h3 d3 k3 => ⟨w, h3, d3, rfl⟩
  rintro _ m3 ⟨w, h3, d3, rfl⟩
  refine seq_mid (J := LawI row s ns x) ?_ ?_
  · walk_at "wk"
    refine is_protocol_post (d := 2) h3 (by decide) fun m4 k4 => ?_
    rw [hpr]
    refine so_bool ?_
    walk_at "wi"
    refine tupled_post 7 _ _ _ _ _ (h3.kq k4) fun m5 k5 => ?_
    refine so_refl 7 _ _ _ _ hp7 ?_
    walk_at "wi"
    exact ⟨_, _, _, _, _, _, _, _, rfl, k5.dr (k4.dr d3)⟩
  rintro e m4 I4
  refine seq_mid (J := LawI row s ns x) ?_ ?_
  · walk_at "wk"
    refine ⟨⟨by decide, by decide⟩, ?_⟩
    refine ws_range (Int.toNat 8) (fun _ => LawI row s ns x) I4 ?_ fun _ _ j => j
    rintro k env m5 hk ⟨h, a, c, pl, mn, rl, kk, v, rfl, d5⟩
    unfold lw0
    walk_at "wk"
    refine spoilt_post 5 _ _ _ _ hp9 d5 fun y m6 hy d6 k6 => ?_
    refine both_post d6 hy fun m7 d7 k7 => ?_
    walk_at "wi"
    exact ⟨_, _, _, _, _, _, _, _, rfl, d7⟩
  rintro e5 m5 ⟨h, a, c, pl, mn, rl, kk, v, rfl, d5⟩
  refine seq_mid (J := LawJ row s ns x) ?_ ?_
  · walk_at "wk"
    refine ⟨by rw [hsz]; decide, by rw [hsz]; decide, ?_⟩
    exact ⟨_, _, _, _, _, _, _, rfl, d5⟩
  rintro e6 m6 J6
  refine seq_mid (J := LawJ row s ns x) ?_ ?_
  · obtain ⟨h, a, c, mn, rl, k, v, rfl, d6⟩ := J6
    walk_at "wk"
    refine ⟨by rw [hsz]; decide, ?_⟩
    refine ws_loop [W.int 11, .int 12, .int 13] (fun _ => LawJ row s ns x) (fun _ _ _ _ _ => rfl) ⟨_, _, _, _, _, _, _, rfl, d6⟩ ?_ fun _ _ j => j
    rintro k y env m7 hy ⟨h, a, c, mn, rl, kk, v, rfl, d7⟩
    obtain ⟨mny, rfl, mn0, mn13⟩ : ∃ mny : Int, y = .int mny ∧ 0 ≤ mny ∧ mny ≤ 13 := by
      have hm := List.mem_of_getElem? hy
      simp only [List.mem_cons,
              List.not_mem_nil, or_false] at hm
      rcases hm with rfl | rfl | rfl
      · exact ⟨11, rfl, by decide, by decide⟩
      · exact ⟨12, rfl, by decide, by decide⟩
      · exact ⟨13, rfl, by decide, by decide⟩
    unfold lw1
    walk_at "wk"
    refine ⟨⟨by omega, by omega⟩, ?_⟩
    have d7s := d7.s_lt
    have d7r := listAt_lt d7.hrow
    obtain ⟨m', e, ls, e1, e2, e3, e4⟩ := lc_range (g := nameG 10) (t := yesB) (e := tupE (consA (bin fdivV (varE 10) (cE (.int 6))) (consA (bin ixV (callF F_whens nilA) (bin modV (callN intV (consA (varE 10) nilA)) (cE (.int 6)))) (consA (cE (.int 0)) (consA (cE (.str "none")) nilA))))) (vs := [10]) (D := m7.length) (lo := 0) (env := [some (.rol (ns.map W.int)), some (.loc 0), some (.loc s), some x, h, a, c, some (.tup [.int 1, .int 0, .tup []]), some (.int mny), rl, kk, v])
      (Q := fun m => ∃ ls : List W, ls.length ≤ 13 ∧ listAt m m7.length = some ls ∧ (∀ y ∈ ls, pln 2 y) ∧ Dr 0 s row m) mny.toNat
      (fun i m => ∃ ls : List W, ls.length = i ∧ listAt m m7.length = some ls ∧ (∀ y ∈ ls, pln 2 y) ∧ Dr 0 s row m) (mem := m7 ++ [.lst []])
      ⟨[], rfl, listAt_new, fun _ z => (by cases z), d7.app⟩
      (fun i m hi ⟨ls, h1, h2, h3, h4⟩ => by
        walk_at "wl"
        rw [fdivV_int (by decide) (by decide), wp_lift, whens_eq, wp_ok, intV_int, wp_lift, modV_int (by decide), wp_lift]
        obtain ⟨z, f1, f2⟩ := atI_at (xs := WH.map W.str) (i := (0 + (i : Int)) % 6) (Int.emod_nonneg _ (by decide)) (Int.emod_lt_of_pos _ (by decide))
        rw [ixV_items (w := .loc m.length) (listAt_new (mem := m) (xs := WH.map W.str)), f2, Option.map_some, wp_lift]
        obtain ⟨z, f3, rfl⟩ := getL f1
        have h2' : listAt (m ++ [Cell.lst (WH.map W.str)]) m7.length = some ls := listAt_app h2
        refine ⟨by rw [hsz]; decide, _, h2', by omega, ls ++ [_], by rw [List.length_append, h1]; rfl, listAt_set h2', fun y hy => ?_, h4.app.set (by omega) (by omega)⟩
        rcases List.mem_append.mp
                hy with hy | hy
        · exact h3 y hy
        · rw [List.mem_singleton] at hy
          subst hy
          exact pln_rl (wh_ok z (List.mem_of_getElem? f3)) (by decide +kernel))
      (fun m ⟨ls, h1, h2⟩ => ⟨ls, by omega, h2⟩)
    rw [e]
    dsimp only
    rw [tupleV_loc e2, wp_lift]
    have hR : pln 3 (.tup ls) := pln_tup (by omega) e3
    generalize W.tup ls = R at hR ⊢
    refine ⟨by rw [hsz]; decide, by rw [hsz]; decide, by rw [hsz]; decide, by rw [hsz]; decide, by rw [hsz]; decide, by rw [hsz]; decide, by rw [hsz]; decide, by rw [hsz]; decide, by rw [hsz]; decide, ?_⟩
    refine ws_loop [W.tup [.tup [.int 3, .int 0, R], .tup [.int 1, .int 0, .tup []]], .tup [.tup [.int 1, .int 0, .tup []], .tup [.int 3, .int 2, R]], .tup [.tup [.int 5, .int 4, R], .tup [.int 6, .int 0, .tup []]]]
      (fun _ env m => ∃ (rl kk v : Option W), env = [some (.rol (ns.map W.int)), some (.loc 0), some (.loc s), some x, h, a, c, some (.tup [.int 1, .int 0, .tup []]), some (.int mny), rl, kk, v] ∧ Dr 0 s row m) (fun _ _ _ _ _ => rfl) ⟨_, _, _, rfl, e4⟩ ?_ ?_
    · rintro k y env m8 hy ⟨rl, kk, v, rfl, d8⟩
      have hp : pln 7 y := by
        have hm := List.mem_of_getElem? hy
        simp only [List.mem_cons,
                List.not_mem_nil, or_false] at hm
        rcases hm with rfl | rfl | rfl
        · exact pln_two (pln_side hR) pln_plain
        · exact pln_two pln_plain (pln_side hR)
        · exact pln_two (pln_side hR) (pln_side (pln_tup (by simp) fun y hy => by cases hy))
      walk_at "wk"
      refine both_post d8 hp fun m9 d9 k9 => ?_
      walk_at "wi"
      exact ⟨_, _, _, rfl, d9⟩
    · rintro env m8 ⟨rl, kk, v, rfl, d8⟩
      exact ⟨_, _, _, _, _, _, _, rfl, d8⟩
  rintro e7 m7 J7
  refine seq_mid (J := LawJ row s ns x) ?_ ?_
  · obtain ⟨h, a, c, mn, rl, k, v, rfl, d7⟩ := J7
    walk_at "wk"
    refine ⟨by rw [hsz]; decide, by rw [hsz]; decide, by rw [hsz]; decide, by rw [hsz]; decide, by rw [hsz]; decide, by rw [hsz]; decide, by rw [hsz]; decide, by rw [hsz]; decide, by rw [hsz]; decide, by rw [hsz]; decide, ?_⟩
    refine ws_loop [W.tup [.tup [.int 0, .str "pull", .int 0, .str "none"], .tup [.int 0, .str "pull", .int 1, .str "none"]], .tup [.tup [.int 0, .str "pull", .int 1, .str "take"]], .tup [.tup [.int 0, .str "tick", .int 1, .str "tell"]], .tup [.tup [.int 0, .str "tick", .int 1, .str "take"]]]
      (fun _ => LawJ row s ns x) (fun _ _ _ _ _ => rfl) ⟨_, _, _, _, _, _, _, rfl, d7⟩ ?_ fun _ _ j => j
    rintro k R env m8 hy ⟨h, a, c, mn, rl, kk, v, rfl, d8⟩
    have hR : pln 3 R := by
      have z1 : sOk "pull" = true := pull_ok
      have z2 : sOk "none" = true := by decide +kernel
      have z3 : sOk "take" = true := by decide +kernel
      have z4 : sOk "tell" = true := by decide +kernel
      have z5 : sOk "tick" = true := by decide +kernel
      have hm := List.mem_of_getElem? hy
      simp only [List.mem_cons,
              List.not_mem_nil, or_false] at hm
      rcases hm with rfl |
              rfl | rfl | rfl
      · refine pln_tup (by simp) fun y hy => ?_
        simp only [List.mem_cons, List.not_mem_nil, or_false] at hy
        rcases hy with rfl | rfl
        · exact pln_rl z1 z2
        · exact pln_rl z1 z2
      · refine pln_tup (by simp) fun y hy => ?_
        simp only [List.mem_cons, List.not_mem_nil, or_false] at hy
        exact hy ▸ pln_rl z1 z3
      · refine pln_tup (by simp) fun y hy => ?_
        simp only [List.mem_cons, List.not_mem_nil, or_false] at hy
        exact hy ▸ pln_rl z5 z4
      · refine pln_tup (by simp) fun y hy => ?_
        simp only [List.mem_cons, List.not_mem_nil, or_false] at hy
        exact hy ▸ pln_rl z5 z3
    unfold lw2
    walk_at "wk"
    refine ⟨by rw [hsz]; decide, by rw [hsz]; decide, by rw [hsz]; decide, by rw [hsz]; decide, by rw [hsz]; decide, ?_⟩
    refine ws_loop [W.tup [.tup [.int 2, .int 0, R], .tup [.int 1, .int 0, .tup []]], .tup [.tup [.int 1, .int 0, .tup []], .tup [.int 2, .int 0, R]]]
      (fun _ env m => ∃ (mn kk v : Option W), env = [some (.rol (ns.map W.int)), some (.loc 0), some (.loc s), some x, h, a, c, some (.tup [.int 1, .int 0, .tup []]), mn, some R, kk, v] ∧ Dr 0 s row m) (fun _ _ _ _ _ => rfl) ⟨_, _, _, rfl, d8⟩ ?_ ?_
    · rintro k y env m8 hy ⟨rl, kk, v, rfl, d8⟩
      have hp : pln 7 y := by
        have hm := List.mem_of_getElem? hy
        simp only [List.mem_cons,
                List.not_mem_nil, or_false] at hm
        rcases hm with rfl | rfl
        · exact pln_two (pln_side hR) pln_plain
        · exact pln_two pln_plain (pln_side hR)
      walk_at "wk"
      refine plain_post d8 hp fun m9 d9 k9 => ?_
      walk_at "wi"
      exact ⟨_, _, _, rfl, d9⟩
    · rintro env m8 ⟨rl, kk, v, rfl, d8⟩
      exact ⟨_, _, _, _, _, _, _, rfl, d8⟩
  rintro e8 m8 _
  walk_at "wk"
end Sh
set_option linter.all false
set_option maxRecDepth 100000
set_option maxHeartbeats 8000000
/-! the text does them -/
namespace Sh
open PySem PySem.Spec
        PyProof.Rows L2
def top (i : Nat) : Stmt := PySem.Challenge.pw_pullsafe_k12_protocols_told_apart.main.body.getD i (.Pass ⟨0, 0, 0, 0⟩)
structure Top (K : PySem.W.Frag) (mg : Str → Option Value) : Prop where
  n_range : mg "range" = none
  n_int : mg "int" = none
  n_len : mg "len" = none
  n_list : mg "list" = none
  n_tuple : mg "tuple" = none
  n_str : mg "str" = none
  n_isinstance : mg "isinstance" = none
  n_bool : mg "bool" = none
  c_WHENS : GVal K mg "WHENS" v_WHENS
  c_ACTS : GVal K mg "ACTS" v_ACTS
  c_MOST_STATES : GVal K mg "MOST_STATES" v_MOST_STATES
  c_MOST_RULES : GVal K mg "MOST_RULES" v_MOST_RULES
  n_all : mg "all" = none
abbrev s__law_numbers : Stmt := top 16
abbrev N__law_numbers : List Str := ["script", "row", "cell", "left", "k", "mixed"]
theorem sc__law_numbers : FnScope N__law_numbers ["script"] (defScope s__law_numbers) := ⟨rfl, rfl, rfl, by decide +kernel, rfl, by decide +kernel, by decide +kernel⟩
theorem k__law_numbers {P : Program} {w : World} {K : PySem.W.Frag} {mg : Str → Option Value} {base : Heap} {k : Nat} (T : Top K mg) (D : DefAt K mg "_law_numbers" s__law_numbers ["script"]) :
    GFn P w K mg base (k + 1) "_law_numbers" ["script"] (runB 6 (b__law_numbers)) := by
  refine g_def (N := N__law_numbers) D sc__law_numbers fun f cdv A outer s0 H E hr => ?_
  have nd := sc__law_numbers.nd
  have tk : Takes (cxOf (L2.CX P w) P w K mg base N__law_numbers "_law_numbers" (defScope s__law_numbers) f cdv A outer s0 H E) (fun cls d _ H => E cls d H) := takes_of rfl rfl rfl rfl
  have po : PassesOwn (model P w) (cxOf (L2.CX P w) P w K mg base N__law_numbers "_law_numbers" (defScope s__law_numbers) f cdv A outer s0 H E).A (cxOf (L2.CX P w) P w K mg base N__law_numbers "_law_numbers" (defScope s__law_numbers) f cdv A outer s0 H E).env (cxOf (L2.CX P w) P w K mg base N__law_numbers "_law_numbers" (defScope s__law_numbers) f cdv A outer s0 H E).xe := passes_of rfl
  exact (sl_cons (ss_set (i := 1) nd rfl (by first | exact Or.inl rfl | exact Or.inr rfl) (se_lst sa_nil))
    (sl_cons (ss_for po rfl (si_seq (se_slice (se_v 0) sp_none (sp_some se_int))) (sg_name (i := 2) nd rfl (by first | exact Or.inl rfl | exact Or.inr rfl)) (sl_one (ss_if (sb_cmp o_ge (se_v 2) (se_bin o_pow se_int se_int) (nomark _)) (sl_cons (ss_set (i := 3) nd rfl (by first | exact Or.inl rfl | exact Or.inr rfl) (se_v 2))
    (sl_one (ss_for po rfl (si_range1 rfl T.n_range (sa_cons se_int sa_nil)) (sg_name (i := 4) nd rfl (by first | exact Or.inl rfl | exact Or.inr rfl)) (sl_cons (ss_if (sb_cmp (o_eq hr.units) (se_v 3) se_int (nomark _)) (sl_one ss_break) sl_nil)
    (sl_cons (ss_expr (se_append (se_v 1) (sa_cons (se_bin o_mod (se_callTy c_int rfl T.n_int (by decide +kernel) (sa_cons (se_v 3) sa_nil)) se_int) sa_nil)))
    (sl_one (ss_set (i := 3) nd rfl (by first | exact Or.inl rfl | exact Or.inr rfl) (se_bin o_fdiv (se_v 3) se_int)))))))) (sl_one (ss_for po rfl (si_range1 rfl T.n_range (sa_cons se_int sa_nil)) (sg_name (i := 4) nd rfl (by first | exact Or.inl rfl | exact Or.inr rfl)) (sl_cons (ss_set (i := 5) nd rfl (by first | exact Or.inl rfl | exact Or.inr rfl) (se_bin o_mod (se_callTy c_int rfl T.n_int (by decide +kernel) (sa_cons (se_bin o_add (se_bin o_add (se_bin o_mul (se_v 2) se_int) (se_bin o_mul (se_v 4) se_int)) se_int) sa_nil)) se_int))
    (sl_one (ss_expr (se_append (se_v 1) (sa_cons (se_bin o_mod (se_callTy c_int rfl T.n_int (by decide +kernel) (sa_cons (se_bin o_add (se_bin o_mul (se_v 5) se_int) (se_v 4)) sa_nil)) se_int) sa_nil))))))))))
    (sl_cons (ss_if (sb_cmp (o_eq hr.units) (se_callB c_len rfl T.n_len (by decide +kernel) (sa_cons (se_v 1) sa_nil)) se_int (nomark _)) (sl_one (ss_expr (se_append (se_v 1) (sa_cons se_int sa_nil)))) sl_nil)
    (sl_one (ss_ret (se_v 1))))))

abbrev s__law_draw : Stmt := top 17
abbrev N__law_draw : List Str := ["row", "at", "limit", "mixed"]
theorem sc__law_draw : FnScope N__law_draw ["row", "at", "limit"] (defScope s__law_draw) := ⟨rfl, rfl, rfl, by decide +kernel, rfl, by decide +kernel, by decide +kernel⟩
theorem k__law_draw {P : Program} {w : World} {K : PySem.W.Frag} {mg : Str → Option Value} {base : Heap} {k : Nat} (T : Top K mg) (D : DefAt K mg "_law_draw" s__law_draw ["row", "at", "limit"]) :
    GFn P w K mg base (k + 1) "_law_draw" ["row", "at", "limit"] (runB 4 (b__law_draw)) := by
  refine g_def (N := N__law_draw) D sc__law_draw fun f cdv A outer s0 H E hr => ?_
  have nd := sc__law_draw.nd
  have tk : Takes (cxOf (L2.CX P w) P w K mg base N__law_draw "_law_draw" (defScope s__law_draw) f cdv A outer s0 H E) (fun cls d _ H => E cls d H) := takes_of rfl rfl rfl rfl
  have po : PassesOwn (model P w) (cxOf (L2.CX P w) P w K mg base N__law_draw "_law_draw" (defScope s__law_draw) f cdv A outer s0 H E).A (cxOf (L2.CX P w) P w K mg base N__law_draw "_law_draw" (defScope s__law_draw) f cdv A outer s0 H E).env (cxOf (L2.CX P w) P w K mg base N__law_draw "_law_draw" (defScope s__law_draw) f cdv A outer s0 H E).xe := passes_of rfl
  exact (sl_cons (ss_if (sb_cmp o_lt (se_v 1) (se_callB c_len rfl T.n_len (by decide +kernel) (sa_cons (se_v 0) sa_nil)) (nomark _)) (sl_one (ss_ret (se_bin o_mod (se_callTy c_int rfl T.n_int (by decide +kernel) (sa_cons (se_ix o_ix (se_v 0) (se_v 1)) sa_nil)) (se_v 2)))) sl_nil)
    (sl_cons (ss_set (i := 3) nd rfl (by first | exact Or.inl rfl | exact Or.inr rfl) (se_bin o_mod (se_callTy c_int rfl T.n_int (by decide +kernel) (sa_cons (se_bin o_add (se_bin o_add (se_bin o_mul (se_ix o_ix (se_v 0) (se_bin o_mod (se_callTy c_int rfl T.n_int (by decide +kernel) (sa_cons (se_v 1) sa_nil)) (se_callB c_len rfl T.n_len (by decide +kernel) (sa_cons (se_v 0) sa_nil)))) se_int) (se_bin o_mul (se_v 1) se_int)) se_int) sa_nil)) se_int))
    (sl_one (ss_ret (se_bin o_mod (se_callTy c_int rfl T.n_int (by decide +kernel) (sa_cons (se_bin o_mod (se_callTy c_int rfl T.n_int (by decide +kernel) (sa_cons (se_bin o_add (se_bin o_mul (se_v 3) se_int) (se_v 1)) sa_nil)) se_int) sa_nil)) (se_v 2))))))

abbrev s__law_take : Stmt := top 18
abbrev N__law_take : List Str := ["row", "spot", "limit"]
theorem sc__law_take : FnScope N__law_take ["row", "spot", "limit"] (defScope s__law_take) := ⟨rfl, rfl, rfl, by decide +kernel, rfl, by decide +kernel, by decide +kernel⟩
theorem k__law_take {P : Program} {w : World} {K : PySem.W.Frag} {mg : Str → Option Value} {base : Heap} {k : Nat} {f__law_draw : Fn} (T : Top K mg) (D : DefAt K mg "_law_take" s__law_take ["row", "spot", "limit"]) (h__law_draw : GFn P w K mg base k "_law_draw" ["row", "at", "limit"] f__law_draw) :
    GFn P w K mg base (k + 1) "_law_take" ["row", "spot", "limit"] (runB 3 (b__law_take f__law_draw)) := by
  refine g_def (N := N__law_take) D sc__law_take fun f cdv A outer s0 H E hr => ?_
  have nd := sc__law_take.nd
  have tk : Takes (cxOf (L2.CX P w) P w K mg base N__law_take "_law_take" (defScope s__law_take) f cdv A outer s0 H E) (fun cls d _ H => E cls d H) := takes_of rfl rfl rfl rfl
  have po : PassesOwn (model P w) (cxOf (L2.CX P w) P w K mg base N__law_take "_law_take" (defScope s__law_take) f cdv A outer s0 H E).A (cxOf (L2.CX P w) P w K mg base N__law_take "_law_take" (defScope s__law_take) f cdv A outer s0 H E).env (cxOf (L2.CX P w) P w K mg base N__law_take "_law_take" (defScope s__law_take) f cdv A outer s0 H E).xe := passes_of rfl
  exact (sl_cons (ss_asg (se_bin o_add (se_ix o_ix (se_v 1) se_int) se_int) (sg_sub (se_v 1) se_int s_set))
    (sl_one (ss_ret (se_g h__law_draw hr rfl tk (sa_cons (se_v 0) (sa_cons (se_bin o_sub (se_ix o_ix (se_v 1) se_int) se_int) (sa_cons (se_v 2) sa_nil))) (nargs_cons (nargs_cons (nargs_cons nargs_nil)))))))

abbrev s__law_pick : Stmt := top 24
abbrev N__law_pick : List Str := ["row", "spot", "things"]
theorem sc__law_pick : FnScope N__law_pick ["row", "spot", "things"] (defScope s__law_pick) := ⟨rfl, rfl, rfl, by decide +kernel, rfl, by decide +kernel, by decide +kernel⟩
theorem k__law_pick {P : Program} {w : World} {K : PySem.W.Frag} {mg : Str → Option Value} {base : Heap} {k : Nat} {f__law_take : Fn} (T : Top K mg) (D : DefAt K mg "_law_pick" s__law_pick ["row", "spot", "things"]) (h__law_take : GFn P w K mg base k "_law_take" ["row", "spot", "limit"] f__law_take) :
    GFn P w K mg base (k + 1) "_law_pick" ["row", "spot", "things"] (runB 3 (b__law_pick f__law_take)) := by
  refine g_def (N := N__law_pick) D sc__law_pick fun f cdv A outer s0 H E hr => ?_
  have nd := sc__law_pick.nd
  have tk : Takes (cxOf (L2.CX P w) P w K mg base N__law_pick "_law_pick" (defScope s__law_pick) f cdv A outer s0 H E) (fun cls d _ H => E cls d H) := takes_of rfl rfl rfl rfl
  have po : PassesOwn (model P w) (cxOf (L2.CX P w) P w K mg base N__law_pick "_law_pick" (defScope s__law_pick) f cdv A outer s0 H E).A (cxOf (L2.CX P w) P w K mg base N__law_pick "_law_pick" (defScope s__law_pick) f cdv A outer s0 H E).env (cxOf (L2.CX P w) P w K mg base N__law_pick "_law_pick" (defScope s__law_pick) f cdv A outer s0 H E).xe := passes_of rfl
  exact (sl_one (ss_ret (se_ix o_ix (se_v 2) (se_g h__law_take hr rfl tk (sa_cons (se_v 0) (sa_cons (se_v 1) (sa_cons (se_callB c_len rfl T.n_len (by decide +kernel) (sa_cons (se_v 2) sa_nil)) sa_nil))) (nargs_cons (nargs_cons (nargs_cons nargs_nil)))))))

abbrev s__law_shuffled : Stmt := top 25
abbrev N__law_shuffled : List Str := ["row", "spot", "many", "left", "made", "k"]
theorem sc__law_shuffled : FnScope N__law_shuffled ["row", "spot", "many"] (defScope s__law_shuffled) := ⟨rfl, rfl, rfl, by decide +kernel, rfl, by decide +kernel, by decide +kernel⟩
theorem k__law_shuffled {P : Program} {w : World} {K : PySem.W.Frag} {mg : Str → Option Value} {base : Heap} {k : Nat} {f__law_take : Fn} (T : Top K mg) (D : DefAt K mg "_law_shuffled" s__law_shuffled ["row", "spot", "many"]) (h__law_take : GFn P w K mg base k "_law_take" ["row", "spot", "limit"] f__law_take) :
    GFn P w K mg base (k + 1) "_law_shuffled" ["row", "spot", "many"] (runB 6 (b__law_shuffled f__law_take)) := by
  refine g_def (N := N__law_shuffled) D sc__law_shuffled fun f cdv A outer s0 H E hr => ?_
  have nd := sc__law_shuffled.nd
  have tk : Takes (cxOf (L2.CX P w) P w K mg base N__law_shuffled "_law_shuffled" (defScope s__law_shuffled) f cdv A outer s0 H E) (fun cls d _ H => E cls d H) := takes_of rfl rfl rfl rfl
  have po : PassesOwn (model P w) (cxOf (L2.CX P w) P w K mg base N__law_shuffled "_law_shuffled" (defScope s__law_shuffled) f cdv A outer s0 H E).A (cxOf (L2.CX P w) P w K mg base N__law_shuffled "_law_shuffled" (defScope s__law_shuffled) f cdv A outer s0 H E).env (cxOf (L2.CX P w) P w K mg base N__law_shuffled "_law_shuffled" (defScope s__law_shuffled) f cdv A outer s0 H E).xe := passes_of rfl
  exact (sl_cons (ss_set (i := 3) nd rfl (by first | exact Or.inl rfl | exact Or.inr rfl) (se_listRange rfl rfl T.n_list rfl T.n_range (se_v 2)))
    (sl_cons (ss_set (i := 4) nd rfl (by first | exact Or.inl rfl | exact Or.inr rfl) (se_lst sa_nil))
    (sl_cons (ss_for po rfl (si_range1 rfl T.n_range (sa_cons (se_v 2) sa_nil)) (sg_name (i := 5) nd rfl (by first | exact Or.inl rfl | exact Or.inr rfl)) (sl_one (ss_expr (se_append (se_v 4) (sa_cons (se_pop (se_v 3) (sa_cons (se_g h__law_take hr rfl tk (sa_cons (se_v 0) (sa_cons (se_v 1) (sa_cons (se_callB c_len rfl T.n_len (by decide +kernel) (sa_cons (se_v 3) sa_nil)) sa_nil))) (nargs_cons (nargs_cons (nargs_cons nargs_nil)))) sa_nil)) sa_nil)))))
    (sl_one (ss_ret (se_v 4))))))

abbrev s__law_bases : Stmt := top 30
abbrev N__law_bases : List Str := ["rules", "host", "device", "more", "simple", "plain", "k", "counter", "wheel", "late", "rule", "pulled", "short", "bare", "made"]
theorem sc__law_bases : FnScope N__law_bases [] (defScope s__law_bases) := ⟨rfl, rfl, rfl, by decide +kernel, rfl, by decide +kernel, by decide +kernel⟩
theorem k__law_bases {P : Program} {w : World} {K : PySem.W.Frag} {mg : Str → Option Value} {base : Heap} {k : Nat} (T : Top K mg) (D : DefAt K mg "_law_bases" s__law_bases []) :
    GFn P w K mg base (k + 1) "_law_bases" [] (runB 15 (b__law_bases)) := by
  refine g_def (N := N__law_bases) D sc__law_bases fun f cdv A outer s0 H E hr => ?_
  have nd := sc__law_bases.nd
  have tk : Takes (cxOf (L2.CX P w) P w K mg base N__law_bases "_law_bases" (defScope s__law_bases) f cdv A outer s0 H E) (fun cls d _ H => E cls d H) := takes_of rfl rfl rfl rfl
  have po : PassesOwn (model P w) (cxOf (L2.CX P w) P w K mg base N__law_bases "_law_bases" (defScope s__law_bases) f cdv A outer s0 H E).A (cxOf (L2.CX P w) P w K mg base N__law_bases "_law_bases" (defScope s__law_bases) f cdv A outer s0 H E).env (cxOf (L2.CX P w) P w K mg base N__law_bases "_law_bases" (defScope s__law_bases) f cdv A outer s0 H E).xe := passes_of rfl
  exact (sl_cons (ss_set (i := 0) nd rfl (by first | exact Or.inl rfl | exact Or.inr rfl) (se_tup (sa_cons (se_tup (sa_cons se_int (sa_cons se_str (sa_cons se_int (sa_cons se_str sa_nil))))) (sa_cons (se_tup (sa_cons se_int (sa_cons se_str (sa_cons se_int (sa_cons se_str sa_nil))))) (sa_cons (se_tup (sa_cons se_int (sa_cons se_str (sa_cons se_int (sa_cons se_str sa_nil))))) sa_nil)))))
    (sl_cons (ss_set (i := 1) nd rfl (by first | exact Or.inl rfl | exact Or.inr rfl) (se_tup (sa_cons se_int (sa_cons se_int (sa_cons (se_bin o_add (se_v 0) (se_tup (sa_cons (se_tup (sa_cons se_int (sa_cons se_str (sa_cons se_int (sa_cons se_str sa_nil))))) (sa_cons (se_tup (sa_cons se_int (sa_cons se_str (sa_cons se_int (sa_cons se_str sa_nil))))) (sa_cons (se_tup (sa_cons se_int (sa_cons se_str (sa_cons se_int (sa_cons se_str sa_nil))))) sa_nil))))) sa_nil)))))
    (sl_cons (ss_set (i := 0) nd rfl (by first | exact Or.inl rfl | exact Or.inr rfl) (se_tup (sa_cons (se_tup (sa_cons se_int (sa_cons se_str (sa_cons se_int (sa_cons se_str sa_nil))))) (sa_cons (se_tup (sa_cons se_int (sa_cons se_str (sa_cons se_int (sa_cons se_str sa_nil))))) (sa_cons (se_tup (sa_cons se_int (sa_cons se_str (sa_cons se_int (sa_cons se_str sa_nil))))) sa_nil)))))
    (sl_cons (ss_set (i := 2) nd rfl (by first | exact Or.inl rfl | exact Or.inr rfl) (se_tup (sa_cons se_int (sa_cons se_int (sa_cons (se_bin o_add (se_v 0) (se_tup (sa_cons (se_tup (sa_cons se_int (sa_cons se_str (sa_cons se_int (sa_cons se_str sa_nil))))) (sa_cons (se_tup (sa_cons se_int (sa_cons se_str (sa_cons se_int (sa_cons se_str sa_nil))))) (sa_cons (se_tup (sa_cons se_int (sa_cons se_str (sa_cons se_int (sa_cons se_str sa_nil))))) sa_nil))))) sa_nil)))))
    (sl_cons (ss_set (i := 3) nd rfl (by first | exact Or.inl rfl | exact Or.inr rfl) (se_tup (sa_cons (se_tup (sa_cons se_int (sa_cons se_str (sa_cons se_int (sa_cons se_str sa_nil))))) (sa_cons (se_tup (sa_cons se_int (sa_cons se_str (sa_cons se_int (sa_cons se_str sa_nil))))) (sa_cons (se_tup (sa_cons se_int (sa_cons se_str (sa_cons se_int (sa_cons se_str sa_nil))))) (sa_cons (se_tup (sa_cons se_int (sa_cons se_str (sa_cons se_int (sa_cons se_str sa_nil))))) sa_nil))))))
    (sl_cons (ss_set (i := 4) nd rfl (by first | exact Or.inl rfl | exact Or.inr rfl) (se_tup (sa_cons se_int (sa_cons se_int (sa_cons (se_tup (sa_cons (se_tup (sa_cons se_int (sa_cons se_str (sa_cons se_int (sa_cons se_str sa_nil))))) (sa_cons (se_tup (sa_cons se_int (sa_cons se_str (sa_cons se_int (sa_cons se_str sa_nil))))) (sa_cons (se_tup (sa_cons se_int (sa_cons se_str (sa_cons se_int (sa_cons se_str sa_nil))))) sa_nil)))) sa_nil)))))
    (sl_cons (ss_set (i := 5) nd rfl (by first | exact Or.inl rfl | exact Or.inr rfl) (se_tup (sa_cons se_int (sa_cons se_int (sa_cons (se_tup (sa_cons (se_tup (sa_cons se_int (sa_cons se_str (sa_cons se_int (sa_cons se_str sa_nil))))) (sa_cons (se_tup (sa_cons se_int (sa_cons se_str (sa_cons se_int (sa_cons se_str sa_nil))))) sa_nil))) sa_nil)))))
    (sl_cons (ss_set (i := 0) nd rfl (by first | exact Or.inl rfl | exact Or.inr rfl) (se_tup (sa_cons (se_tup (sa_cons se_int (sa_cons se_str (sa_cons se_int (sa_cons se_str sa_nil))))) (sa_cons (se_tup (sa_cons se_int (sa_cons se_str (sa_cons se_int (sa_cons se_str sa_nil))))) sa_nil))))
    (sl_cons (ss_for po rfl (si_range1 rfl T.n_range (sa_cons se_int sa_nil)) (sg_name (i := 6) nd rfl (by first | exact Or.inl rfl | exact Or.inr rfl)) (sl_one (ss_set (i := 0) nd rfl (by first | exact Or.inl rfl | exact Or.inr rfl) (se_bin o_add (se_v 0) (se_tup (sa_cons (se_tup (sa_cons (se_v 6) (sa_cons se_str (sa_cons (se_v 6) (sa_cons se_str sa_nil))))) (sa_cons (se_tup (sa_cons (se_v 6) (sa_cons se_str (sa_cons (se_bin o_add (se_v 6) se_int) (sa_cons se_str sa_nil))))) sa_nil)))))))
    (sl_cons (ss_set (i := 7) nd rfl (by first | exact Or.inl rfl | exact Or.inr rfl) (se_tup (sa_cons se_int (sa_cons se_int (sa_cons (se_v 0) sa_nil)))))
    (sl_cons (ss_set (i := 0) nd rfl (by first | exact Or.inl rfl | exact Or.inr rfl) (se_tup (sa_cons (se_tup (sa_cons se_int (sa_cons se_str (sa_cons se_int (sa_cons se_str sa_nil))))) sa_nil)))
    (sl_cons (ss_for po rfl (si_range1 rfl T.n_range (sa_cons se_int sa_nil)) (sg_name (i := 6) nd rfl (by first | exact Or.inl rfl | exact Or.inr rfl)) (sl_one (ss_set (i := 0) nd rfl (by first | exact Or.inl rfl | exact Or.inr rfl) (se_bin o_add (se_v 0) (se_tup (sa_cons (se_tup (sa_cons (se_v 6) (sa_cons se_str (sa_cons (se_bin o_add (se_v 6) se_int) (sa_cons se_str sa_nil))))) sa_nil))))))
    (sl_cons (ss_set (i := 8) nd rfl (by first | exact Or.inl rfl | exact Or.inr rfl) (se_tup (sa_cons se_int (sa_cons se_int (sa_cons (se_v 0) sa_nil)))))
    (sl_cons (ss_set (i := 9) nd rfl (by first | exact Or.inl rfl | exact Or.inr rfl) (se_tup (sa_cons se_int (sa_cons se_int (sa_cons (se_bin o_add (se_callTy c_tuple rfl T.n_tuple (by decide +kernel) (sa_cons (se_lc (own := [("rule", 10)]) rfl nd (si_seq (se_ix o_ix (se_v 1) se_int)) (blkOk_by (own := [("rule", 10)]) (N := N__law_bases) (sc := defScope s__law_bases) (by decide +kernel)) (fun _ _ _ _ _ => (so_name (i := 10) nd rfl (by first | exact Or.inl rfl | exact Or.inr rfl) (by decide))) (fun _ _ _ _ _ => sts_nil) (fun _ _ _ _ _ => (se_v 10))) sa_nil)) (se_tup (sa_cons (se_tup (sa_cons se_int (sa_cons se_str (sa_cons se_int (sa_cons se_str sa_nil))))) (sa_cons (se_tup (sa_cons se_int (sa_cons se_str (sa_cons se_int (sa_cons se_str sa_nil))))) sa_nil)))) sa_nil)))))
    (sl_cons (ss_set (i := 11) nd rfl (by first | exact Or.inl rfl | exact Or.inr rfl) (se_tup (sa_cons se_int (sa_cons se_int (sa_cons (se_bin o_add (se_ix o_ix (se_v 1) se_int) (se_tup (sa_cons (se_tup (sa_cons se_int (sa_cons se_str (sa_cons se_int (sa_cons se_str sa_nil))))) (sa_cons (se_tup (sa_cons se_int (sa_cons se_str (sa_cons se_int (sa_cons se_str sa_nil))))) sa_nil)))) sa_nil)))))
    (sl_cons (ss_set (i := 12) nd rfl (by first | exact Or.inl rfl | exact Or.inr rfl) (se_tup (sa_cons se_int (sa_cons se_int (sa_cons (se_tup (sa_cons (se_tup (sa_cons se_int (sa_cons se_str (sa_cons se_int (sa_cons se_str sa_nil))))) (sa_cons (se_tup (sa_cons se_int (sa_cons se_str (sa_cons se_int (sa_cons se_str sa_nil))))) (sa_cons (se_tup (sa_cons se_int (sa_cons se_str (sa_cons se_int (sa_cons se_str sa_nil))))) (sa_cons (se_tup (sa_cons se_int (sa_cons se_str (sa_cons se_int (sa_cons se_str sa_nil))))) sa_nil))))) sa_nil)))))
    (sl_cons (ss_set (i := 13) nd rfl (by first | exact Or.inl rfl | exact Or.inr rfl) (se_tup (sa_cons (se_tup (sa_cons se_int (sa_cons se_int (sa_cons (se_tup (sa_cons (se_tup (sa_cons se_int (sa_cons se_str (sa_cons se_int (sa_cons se_str sa_nil))))) sa_nil)) sa_nil)))) (sa_cons (se_tup (sa_cons se_int (sa_cons se_int (sa_cons (se_tup (sa_cons (se_tup (sa_cons se_int (sa_cons se_str (sa_cons se_int (sa_cons se_str sa_nil))))) sa_nil)) sa_nil)))) sa_nil))))
    (sl_cons (ss_set (i := 14) nd rfl (by first | exact Or.inl rfl | exact Or.inr rfl) (se_lst (sa_cons (se_tup (sa_cons (se_v 1) (sa_cons (se_v 2) sa_nil))) (sa_cons (se_tup (sa_cons (se_bin o_add (se_slice (se_v 1) sp_none (sp_some se_int)) (se_tup (sa_cons (se_bin o_add (se_ix o_ix (se_v 1) se_int) (se_v 3)) sa_nil))) (sa_cons (se_v 2) sa_nil))) (sa_cons (se_tup (sa_cons (se_v 4) (sa_cons (se_v 5) sa_nil))) (sa_cons (se_tup (sa_cons (se_v 7) (sa_cons (se_v 8) sa_nil))) sa_nil))))))
    (sl_one (ss_ret (se_bin o_add (se_v 14) (se_lst (sa_cons (se_tup (sa_cons (se_v 9) (sa_cons (se_v 2) sa_nil))) (sa_cons (se_tup (sa_cons (se_v 11) (sa_cons (se_v 12) sa_nil))) (sa_cons (se_v 13) sa_nil)))))))))))))))))))))))))

abbrev s__law_renamed : Stmt := top 33
abbrev N__law_renamed : List Str := ["row", "spot", "side", "frames", "order", "rules", "rule", "when", "act", "k"]
theorem sc__law_renamed : FnScope N__law_renamed ["row", "spot", "side", "frames"] (defScope s__law_renamed) := ⟨rfl, rfl, rfl, by decide +kernel, rfl, by decide +kernel, by decide +kernel⟩
theorem k__law_renamed {P : Program} {w : World} {K : PySem.W.Frag} {mg : Str → Option Value} {base : Heap} {k : Nat} {f__law_shuffled : Fn} (T : Top K mg) (D : DefAt K mg "_law_renamed" s__law_renamed ["row", "spot", "side", "frames"]) (h__law_shuffled : GFn P w K mg base k "_law_shuffled" ["row", "spot", "many"] f__law_shuffled) :
    GFn P w K mg base (k + 1) "_law_renamed" ["row", "spot", "side", "frames"] (runB 10 (b__law_renamed f__law_shuffled)) := by
  refine g_def (N := N__law_renamed) D sc__law_renamed fun f cdv A outer s0 H E hr => ?_
  have nd := sc__law_renamed.nd
  have tk : Takes (cxOf (L2.CX P w) P w K mg base N__law_renamed "_law_renamed" (defScope s__law_renamed) f cdv A outer s0 H E) (fun cls d _ H => E cls d H) := takes_of rfl rfl rfl rfl
  have po : PassesOwn (model P w) (cxOf (L2.CX P w) P w K mg base N__law_renamed "_law_renamed" (defScope s__law_renamed) f cdv A outer s0 H E).A (cxOf (L2.CX P w) P w K mg base N__law_renamed "_law_renamed" (defScope s__law_renamed) f cdv A outer s0 H E).env (cxOf (L2.CX P w) P w K mg base N__law_renamed "_law_renamed" (defScope s__law_renamed) f cdv A outer s0 H E).xe := passes_of rfl
  exact (sl_cons (ss_set (i := 4) nd rfl (by first | exact Or.inl rfl | exact Or.inr rfl) (se_g h__law_shuffled hr rfl tk (sa_cons (se_v 0) (sa_cons (se_v 1) (sa_cons (se_ix o_ix (se_v 2) se_int) sa_nil))) (nargs_cons (nargs_cons (nargs_cons nargs_nil)))))
    (sl_cons (ss_set (i := 5) nd rfl (by first | exact Or.inl rfl | exact Or.inr rfl) (se_lst sa_nil))
    (sl_cons (ss_for po rfl (si_seq (se_ix o_ix (se_v 2) se_int)) (sg_name (i := 6) nd rfl (by first | exact Or.inl rfl | exact Or.inr rfl)) (sl_cons (ss_set (i := 7) nd rfl (by first | exact Or.inl rfl | exact Or.inr rfl) (se_if (sb_cmp (o_eq hr.units) (se_slice (se_ix o_ix (se_v 6) se_int) sp_none (sp_some se_int)) se_str (nomark _)) (se_bin o_add se_str (se_callTy c_str rfl T.n_str (by decide +kernel) (sa_cons (se_ix o_ix (se_v 3) (se_callTy c_int rfl T.n_int (by decide +kernel) (sa_cons (se_slice (se_ix o_ix (se_v 6) se_int) (sp_some se_int) sp_none) sa_nil))) sa_nil))) (se_ix o_ix (se_v 6) se_int)))
    (sl_cons (ss_set (i := 8) nd rfl (by first | exact Or.inl rfl | exact Or.inr rfl) (se_if (sb_cmp (o_eq hr.units) (se_slice (se_ix o_ix (se_v 6) se_int) sp_none (sp_some se_int)) se_str (nomark _)) (se_bin o_add se_str (se_callTy c_str rfl T.n_str (by decide +kernel) (sa_cons (se_ix o_ix (se_v 3) (se_callTy c_int rfl T.n_int (by decide +kernel) (sa_cons (se_slice (se_ix o_ix (se_v 6) se_int) (sp_some se_int) sp_none) sa_nil))) sa_nil))) (se_ix o_ix (se_v 6) se_int)))
    (sl_one (ss_expr (se_append (se_v 5) (sa_cons (se_tup (sa_cons (se_ix o_ix (se_v 4) (se_ix o_ix (se_v 6) se_int)) (sa_cons (se_v 7) (sa_cons (se_ix o_ix (se_v 4) (se_ix o_ix (se_v 6) se_int)) (sa_cons (se_v 8) sa_nil))))) sa_nil)))))))
    (sl_cons (ss_set (i := 5) nd rfl (by first | exact Or.inl rfl | exact Or.inr rfl) (se_lc (own := [("k", 9)]) rfl nd (si_seq (se_g h__law_shuffled hr rfl tk (sa_cons (se_v 0) (sa_cons (se_v 1) (sa_cons (se_callB c_len rfl T.n_len (by decide +kernel) (sa_cons (se_v 5) sa_nil)) sa_nil))) (nargs_cons (nargs_cons (nargs_cons nargs_nil))))) (blkOk_by (own := [("k", 9)]) (N := N__law_renamed) (sc := defScope s__law_renamed) (by decide +kernel)) (fun _ _ _ _ _ => (so_name (i := 9) nd rfl (by first | exact Or.inl rfl | exact Or.inr rfl) (by decide))) (fun _ _ _ _ _ => sts_nil) (fun _ _ _ _ _ => (se_ix o_ix (se_v 5) (se_v 9)))))
    (sl_one (ss_ret (se_tup (sa_cons (se_ix o_ix (se_v 2) se_int) (sa_cons (se_ix o_ix (se_v 4) (se_ix o_ix (se_v 2) se_int)) (sa_cons (se_callTy c_tuple rfl T.n_tuple (by decide +kernel) (sa_cons (se_v 5) sa_nil)) sa_nil))))))))))

abbrev s__law_fit_rules : Stmt := top 32
abbrev N__law_fit_rules : List Str := ["rules", "made", "pulls", "rule"]
theorem sc__law_fit_rules : FnScope N__law_fit_rules ["rules"] (defScope s__law_fit_rules) := ⟨rfl, rfl, rfl, by decide +kernel, rfl, by decide +kernel, by decide +kernel⟩
theorem k__law_fit_rules {P : Program} {w : World} {K : PySem.W.Frag} {mg : Str → Option Value} {base : Heap} {k : Nat} (T : Top K mg) (D : DefAt K mg "_law_fit_rules" s__law_fit_rules ["rules"]) :
    GFn P w K mg base (k + 1) "_law_fit_rules" ["rules"] (runB 4 (b__law_fit_rules)) := by
  refine g_def (N := N__law_fit_rules) D sc__law_fit_rules fun f cdv A outer s0 H E hr => ?_
  have nd := sc__law_fit_rules.nd
  have tk : Takes (cxOf (L2.CX P w) P w K mg base N__law_fit_rules "_law_fit_rules" (defScope s__law_fit_rules) f cdv A outer s0 H E) (fun cls d _ H => E cls d H) := takes_of rfl rfl rfl rfl
  have po : PassesOwn (model P w) (cxOf (L2.CX P w) P w K mg base N__law_fit_rules "_law_fit_rules" (defScope s__law_fit_rules) f cdv A outer s0 H E).A (cxOf (L2.CX P w) P w K mg base N__law_fit_rules "_law_fit_rules" (defScope s__law_fit_rules) f cdv A outer s0 H E).env (cxOf (L2.CX P w) P w K mg base N__law_fit_rules "_law_fit_rules" (defScope s__law_fit_rules) f cdv A outer s0 H E).xe := passes_of rfl
  exact (sl_cons (ss_set (i := 1) nd rfl (by first | exact Or.inl rfl | exact Or.inr rfl) (se_lst sa_nil))
    (sl_cons (ss_set (i := 2) nd rfl (by first | exact Or.inl rfl | exact Or.inr rfl) (se_lst sa_nil))
    (sl_cons (ss_for po rfl (si_seq (se_v 0)) (sg_name (i := 3) nd rfl (by first | exact Or.inl rfl | exact Or.inr rfl)) (sl_one (ss_if (sb_w (sw_and (sb_cmp (o_notin (hu65 hr)) (se_v 3) (se_v 1) rfl) (sw_and (sb_cmp o_lt (se_callB c_len rfl T.n_len (by decide +kernel) (sa_cons (se_v 1) sa_nil)) se_int (nomark _)) (sw_and1 (sb_not (sb_w (sw_and (sb_cmp (o_eq hr.units) (se_ix o_ix (se_v 3) se_int) se_str (nomark _)) (sw_and1 (sb_cmp (o_in (hu65 hr)) (se_ix o_ix (se_v 3) se_int) (se_v 2) rfl))))))))) (sl_cons (ss_expr (se_append (se_v 1) (sa_cons (se_v 3) sa_nil)))
    (sl_one (ss_if (sb_cmp (o_eq hr.units) (se_ix o_ix (se_v 3) se_int) se_str (nomark _)) (sl_one (ss_expr (se_append (se_v 2) (sa_cons (se_ix o_ix (se_v 3) se_int) sa_nil)))) sl_nil))) sl_nil)))
    (sl_one (ss_ret (se_callTy c_tuple rfl T.n_tuple (by decide +kernel) (sa_cons (se_v 1) sa_nil)))))))

abbrev s__law_whens : Stmt := top 26
abbrev N__law_whens : List Str := []
theorem sc__law_whens : FnScope N__law_whens [] (defScope s__law_whens) := ⟨rfl, rfl, rfl, by decide +kernel, rfl, by decide +kernel, by decide +kernel⟩
theorem k__law_whens {P : Program} {w : World} {K : PySem.W.Frag} {mg : Str → Option Value} {base : Heap} {k : Nat} (T : Top K mg) (D : DefAt K mg "_law_whens" s__law_whens []) :
    GFn P w K mg base (k + 1) "_law_whens" [] (runB 0 (b__law_whens)) := by
  refine g_def (N := N__law_whens) D sc__law_whens fun f cdv A outer s0 H E hr => ?_
  have nd := sc__law_whens.nd
  have tk : Takes (cxOf (L2.CX P w) P w K mg base N__law_whens "_law_whens" (defScope s__law_whens) f cdv A outer s0 H E) (fun cls d _ H => E cls d H) := takes_of rfl rfl rfl rfl
  have po : PassesOwn (model P w) (cxOf (L2.CX P w) P w K mg base N__law_whens "_law_whens" (defScope s__law_whens) f cdv A outer s0 H E).A (cxOf (L2.CX P w) P w K mg base N__law_whens "_law_whens" (defScope s__law_whens) f cdv A outer s0 H E).env (cxOf (L2.CX P w) P w K mg base N__law_whens "_law_whens" (defScope s__law_whens) f cdv A outer s0 H E).xe := passes_of rfl
  exact (sl_one (ss_ret (se_lst (sa_cons se_str (sa_cons se_str (sa_cons se_str (sa_cons se_str (sa_cons se_str (sa_cons se_str sa_nil)))))))))

abbrev s__law_acts : Stmt := top 27
abbrev N__law_acts : List Str := ["host"]
theorem sc__law_acts : FnScope N__law_acts ["host"] (defScope s__law_acts) := ⟨rfl, rfl, rfl, by decide +kernel, rfl, by decide +kernel, by decide +kernel⟩
theorem k__law_acts {P : Program} {w : World} {K : PySem.W.Frag} {mg : Str → Option Value} {base : Heap} {k : Nat} (T : Top K mg) (D : DefAt K mg "_law_acts" s__law_acts ["host"]) :
    GFn P w K mg base (k + 1) "_law_acts" ["host"] (runB 1 (b__law_acts)) := by
  refine g_def (N := N__law_acts) D sc__law_acts fun f cdv A outer s0 H E hr => ?_
  have nd := sc__law_acts.nd
  have tk : Takes (cxOf (L2.CX P w) P w K mg base N__law_acts "_law_acts" (defScope s__law_acts) f cdv A outer s0 H E) (fun cls d _ H => E cls d H) := takes_of rfl rfl rfl rfl
  have po : PassesOwn (model P w) (cxOf (L2.CX P w) P w K mg base N__law_acts "_law_acts" (defScope s__law_acts) f cdv A outer s0 H E).A (cxOf (L2.CX P w) P w K mg base N__law_acts "_law_acts" (defScope s__law_acts) f cdv A outer s0 H E).env (cxOf (L2.CX P w) P w K mg base N__law_acts "_law_acts" (defScope s__law_acts) f cdv A outer s0 H E).xe := passes_of rfl
  exact (sl_one (ss_ret (se_lst (sa_cons se_str (sa_cons se_str (sa_cons se_str (sa_cons se_str (sa_cons se_str (sa_cons (se_if (sb_e (se_v 0)) se_str se_str) sa_nil)))))))))

abbrev s__law_drawn_rule : Stmt := top 31
abbrev N__law_drawn_rule : List Str := ["row", "spot", "states", "host", "when", "act"]
theorem sc__law_drawn_rule : FnScope N__law_drawn_rule ["row", "spot", "states", "host"] (defScope s__law_drawn_rule) := ⟨rfl, rfl, rfl, by decide +kernel, rfl, by decide +kernel, by decide +kernel⟩
theorem k__law_drawn_rule {P : Program} {w : World} {K : PySem.W.Frag} {mg : Str → Option Value} {base : Heap} {k : Nat} {f__law_pick : Fn} {f__law_whens : Fn} {f__law_acts : Fn} {f__law_take : Fn} (T : Top K mg) (D : DefAt K mg "_law_drawn_rule" s__law_drawn_rule ["row", "spot", "states", "host"]) (h__law_pick : GFn P w K mg base k "_law_pick" ["row", "spot", "things"] f__law_pick) (h__law_whens : GFn P w K mg base k "_law_whens" [] f__law_whens) (h__law_acts : GFn P w K mg base k "_law_acts" ["host"] f__law_acts) (h__law_take : GFn P w K mg base k "_law_take" ["row", "spot", "limit"] f__law_take) :
    GFn P w K mg base (k + 1) "_law_drawn_rule" ["row", "spot", "states", "host"] (runB 6 (b__law_drawn_rule f__law_pick f__law_whens f__law_acts f__law_take)) := by
  refine g_def (N := N__law_drawn_rule) D sc__law_drawn_rule fun f cdv A outer s0 H E hr => ?_
  have nd := sc__law_drawn_rule.nd
  have tk : Takes (cxOf (L2.CX P w) P w K mg base N__law_drawn_rule "_law_drawn_rule" (defScope s__law_drawn_rule) f cdv A outer s0 H E) (fun cls d _ H => E cls d H) := takes_of rfl rfl rfl rfl
  have po : PassesOwn (model P w) (cxOf (L2.CX P w) P w K mg base N__law_drawn_rule "_law_drawn_rule" (defScope s__law_drawn_rule) f cdv A outer s0 H E).A (cxOf (L2.CX P w) P w K mg base N__law_drawn_rule "_law_drawn_rule" (defScope s__law_drawn_rule) f cdv A outer s0 H E).env (cxOf (L2.CX P w) P w K mg base N__law_drawn_rule "_law_drawn_rule" (defScope s__law_drawn_rule) f cdv A outer s0 H E).xe := passes_of rfl
  exact (sl_cons (ss_set (i := 4) nd rfl (by first | exact Or.inl rfl | exact Or.inr rfl) (se_g h__law_pick hr rfl tk (sa_cons (se_v 0) (sa_cons (se_v 1) (sa_cons (se_g0 h__law_whens hr rfl tk) sa_nil))) (nargs_cons (nargs_cons (nargs_cons nargs_nil)))))
    (sl_cons (ss_set (i := 5) nd rfl (by first | exact Or.inl rfl | exact Or.inr rfl) (se_if (sb_cmp (o_eq hr.units) (se_v 4) se_str (nomark _)) se_str (se_g h__law_pick hr rfl tk (sa_cons (se_v 0) (sa_cons (se_v 1) (sa_cons (se_g h__law_acts hr rfl tk (sa_cons (se_v 3) sa_nil) (nargs_cons nargs_nil)) sa_nil))) (nargs_cons (nargs_cons (nargs_cons nargs_nil))))))
    (sl_one (ss_ret (se_tup (sa_cons (se_g h__law_take hr rfl tk (sa_cons (se_v 0) (sa_cons (se_v 1) (sa_cons (se_v 2) sa_nil))) (nargs_cons (nargs_cons (nargs_cons nargs_nil)))) (sa_cons (se_v 4) (sa_cons (se_g h__law_take hr rfl tk (sa_cons (se_v 0) (sa_cons (se_v 1) (sa_cons (se_v 2) sa_nil))) (nargs_cons (nargs_cons (nargs_cons nargs_nil)))) (sa_cons (se_v 5) sa_nil)))))))))

abbrev s__law_varied : Stmt := top 34
abbrev N__law_varied : List Str := ["row", "spot", "side", "host", "states", "start", "rules", "turn", "at"]
theorem sc__law_varied : FnScope N__law_varied ["row", "spot", "side", "host"] (defScope s__law_varied) := ⟨rfl, rfl, rfl, by decide +kernel, rfl, by decide +kernel, by decide +kernel⟩
theorem k__law_varied {P : Program} {w : World} {K : PySem.W.Frag} {mg : Str → Option Value} {base : Heap} {k : Nat} {f__law_take : Fn} {f__law_drawn_rule : Fn} {f__law_pick : Fn} {f__law_acts : Fn} {f__law_whens : Fn} {f__law_fit_rules : Fn} (T : Top K mg) (D : DefAt K mg "_law_varied" s__law_varied ["row", "spot", "side", "host"]) (h__law_take : GFn P w K mg base k "_law_take" ["row", "spot", "limit"] f__law_take) (h__law_drawn_rule : GFn P w K mg base k "_law_drawn_rule" ["row", "spot", "states", "host"] f__law_drawn_rule) (h__law_pick : GFn P w K mg base k "_law_pick" ["row", "spot", "things"] f__law_pick) (h__law_acts : GFn P w K mg base k "_law_acts" ["host"] f__law_acts) (h__law_whens : GFn P w K mg base k "_law_whens" [] f__law_whens) (h__law_fit_rules : GFn P w K mg base k "_law_fit_rules" ["rules"] f__law_fit_rules) :
    GFn P w K mg base (k + 1) "_law_varied" ["row", "spot", "side", "host"] (runB 9 (b__law_varied f__law_take f__law_drawn_rule f__law_pick f__law_acts f__law_whens f__law_fit_rules)) := by
  refine g_def (N := N__law_varied) D sc__law_varied fun f cdv A outer s0 H E hr => ?_
  have nd := sc__law_varied.nd
  have tk : Takes (cxOf (L2.CX P w) P w K mg base N__law_varied "_law_varied" (defScope s__law_varied) f cdv A outer s0 H E) (fun cls d _ H => E cls d H) := takes_of rfl rfl rfl rfl
  have po : PassesOwn (model P w) (cxOf (L2.CX P w) P w K mg base N__law_varied "_law_varied" (defScope s__law_varied) f cdv A outer s0 H E).A (cxOf (L2.CX P w) P w K mg base N__law_varied "_law_varied" (defScope s__law_varied) f cdv A outer s0 H E).env (cxOf (L2.CX P w) P w K mg base N__law_varied "_law_varied" (defScope s__law_varied) f cdv A outer s0 H E).xe := passes_of rfl
  exact (sl_cons (ss_asg (se_v 2) (sg_seq rfl (sgs_cons (sg_name (i := 4) nd rfl (by first | exact Or.inl rfl | exact Or.inr rfl)) (sgs_cons (sg_name (i := 5) nd rfl (by first | exact Or.inl rfl | exact Or.inr rfl)) (sgs_cons (sg_name (i := 6) nd rfl (by first | exact Or.inl rfl | exact Or.inr rfl)) sgs_nil)))))
    (sl_cons (ss_set (i := 6) nd rfl (by first | exact Or.inl rfl | exact Or.inr rfl) (se_callTy c_list rfl T.n_list (by decide +kernel) (sa_cons (se_v 6) sa_nil)))
    (sl_cons (ss_set (i := 7) nd rfl (by first | exact Or.inl rfl | exact Or.inr rfl) (se_g h__law_take hr rfl tk (sa_cons (se_v 0) (sa_cons (se_v 1) (sa_cons se_int sa_nil))) (nargs_cons (nargs_cons (nargs_cons nargs_nil)))))
    (sl_cons (ss_if (sb_w (sw_and (sb_cmp (o_eq hr.units) (se_v 7) se_int (nomark _)) (sw_and1 (sb_cmp o_gt (se_callB c_len rfl T.n_len (by decide +kernel) (sa_cons (se_v 6) sa_nil)) se_int (nomark _))))) (sl_one (ss_expr (se_pop (se_v 6) (sa_cons (se_g h__law_take hr rfl tk (sa_cons (se_v 0) (sa_cons (se_v 1) (sa_cons (se_callB c_len rfl T.n_len (by decide +kernel) (sa_cons (se_v 6) sa_nil)) sa_nil))) (nargs_cons (nargs_cons (nargs_cons nargs_nil)))) sa_nil)))) (sl_one (ss_if (sb_cmp (o_eq hr.units) (se_v 7) se_int (nomark _)) (sl_one (ss_expr (se_insert (se_v 6) (sa_cons (se_g h__law_take hr rfl tk (sa_cons (se_v 0) (sa_cons (se_v 1) (sa_cons (se_bin o_add (se_callB c_len rfl T.n_len (by decide +kernel) (sa_cons (se_v 6) sa_nil)) se_int) sa_nil))) (nargs_cons (nargs_cons (nargs_cons nargs_nil)))) (sa_cons (se_g h__law_drawn_rule hr rfl tk (sa_cons (se_v 0) (sa_cons (se_v 1) (sa_cons (se_v 4) (sa_cons (se_v 3) sa_nil)))) (nargs_cons (nargs_cons (nargs_cons (nargs_cons nargs_nil))))) sa_nil))))) (sl_one (ss_if (sb_w (sw_and (sb_cmp (o_eq hr.units) (se_v 7) se_int (nomark _)) (sw_and1 (sb_cmp o_gt (se_callB c_len rfl T.n_len (by decide +kernel) (sa_cons (se_v 6) sa_nil)) se_int (nomark _))))) (sl_cons (ss_set (i := 8) nd rfl (by first | exact Or.inl rfl | exact Or.inr rfl) (se_g h__law_take hr rfl tk (sa_cons (se_v 0) (sa_cons (se_v 1) (sa_cons (se_callB c_len rfl T.n_len (by decide +kernel) (sa_cons (se_v 6) sa_nil)) sa_nil))) (nargs_cons (nargs_cons (nargs_cons nargs_nil)))))
    (sl_one (ss_asg (se_bin o_add (se_slice (se_ix o_ix (se_v 6) (se_v 8)) sp_none (sp_some se_int)) (se_tup (sa_cons (se_g h__law_take hr rfl tk (sa_cons (se_v 0) (sa_cons (se_v 1) (sa_cons (se_v 4) sa_nil))) (nargs_cons (nargs_cons (nargs_cons nargs_nil)))) (sa_cons (se_ix o_ix (se_ix o_ix (se_v 6) (se_v 8)) se_int) sa_nil)))) (sg_sub (se_v 6) (se_v 8) s_set)))) (sl_one (ss_if (sb_w (sw_and (sb_cmp (o_eq hr.units) (se_v 7) se_int (nomark _)) (sw_and1 (sb_cmp o_gt (se_callB c_len rfl T.n_len (by decide +kernel) (sa_cons (se_v 6) sa_nil)) se_int (nomark _))))) (sl_cons (ss_set (i := 8) nd rfl (by first | exact Or.inl rfl | exact Or.inr rfl) (se_g h__law_take hr rfl tk (sa_cons (se_v 0) (sa_cons (se_v 1) (sa_cons (se_callB c_len rfl T.n_len (by decide +kernel) (sa_cons (se_v 6) sa_nil)) sa_nil))) (nargs_cons (nargs_cons (nargs_cons nargs_nil)))))
    (sl_one (ss_if (sb_cmp (o_ne hr.units) (se_ix o_ix (se_ix o_ix (se_v 6) (se_v 8)) se_int) se_str (nomark _)) (sl_one (ss_asg (se_bin o_add (se_slice (se_ix o_ix (se_v 6) (se_v 8)) sp_none (sp_some se_int)) (se_tup (sa_cons (se_g h__law_pick hr rfl tk (sa_cons (se_v 0) (sa_cons (se_v 1) (sa_cons (se_g h__law_acts hr rfl tk (sa_cons (se_v 3) sa_nil) (nargs_cons nargs_nil)) sa_nil))) (nargs_cons (nargs_cons (nargs_cons nargs_nil)))) sa_nil))) (sg_sub (se_v 6) (se_v 8) s_set))) sl_nil))) (sl_one (ss_if (sb_cmp (o_eq hr.units) (se_v 7) se_int (nomark _)) (sl_one (ss_expr (se_append (se_v 6) (sa_cons (se_tup (sa_cons (se_g h__law_take hr rfl tk (sa_cons (se_v 0) (sa_cons (se_v 1) (sa_cons (se_v 4) sa_nil))) (nargs_cons (nargs_cons (nargs_cons nargs_nil)))) (sa_cons se_str (sa_cons (se_g h__law_take hr rfl tk (sa_cons (se_v 0) (sa_cons (se_v 1) (sa_cons (se_v 4) sa_nil))) (nargs_cons (nargs_cons (nargs_cons nargs_nil)))) (sa_cons se_str sa_nil))))) sa_nil)))) (sl_one (ss_if (sb_w (sw_and (sb_cmp (o_eq hr.units) (se_v 7) se_int (nomark _)) (sw_and1 (sb_cmp o_lt (se_v 4) se_int (nomark _))))) (sl_one (ss_set (i := 4) nd rfl (by first | exact Or.inl rfl | exact Or.inr rfl) (se_bin o_add (se_v 4) se_int))) (sl_one (ss_expr (se_append (se_v 6) (sa_cons (se_tup (sa_cons (se_g h__law_take hr rfl tk (sa_cons (se_v 0) (sa_cons (se_v 1) (sa_cons (se_v 4) sa_nil))) (nargs_cons (nargs_cons (nargs_cons nargs_nil)))) (sa_cons (se_g h__law_pick hr rfl tk (sa_cons (se_v 0) (sa_cons (se_v 1) (sa_cons (se_slice (se_g0 h__law_whens hr rfl tk) (sp_some se_int) sp_none) sa_nil))) (nargs_cons (nargs_cons (nargs_cons nargs_nil)))) (sa_cons (se_g h__law_take hr rfl tk (sa_cons (se_v 0) (sa_cons (se_v 1) (sa_cons (se_v 4) sa_nil))) (nargs_cons (nargs_cons (nargs_cons nargs_nil)))) (sa_cons se_str sa_nil))))) sa_nil)))))))))))))))
    (sl_one (ss_ret (se_tup (sa_cons (se_v 4) (sa_cons (se_v 5) (sa_cons (se_g h__law_fit_rules hr rfl tk (sa_cons (se_v 6) sa_nil) (nargs_cons nargs_nil)) sa_nil))))))))))

abbrev s__law_protocol : Stmt := top 35
abbrev N__law_protocol : List Str := ["row", "spot", "sides", "host", "states", "rules", "k", "base", "frames", "device"]
theorem sc__law_protocol : FnScope N__law_protocol ["row", "spot"] (defScope s__law_protocol) := ⟨rfl, rfl, rfl, by decide +kernel, rfl, by decide +kernel, by decide +kernel⟩
theorem k__law_protocol {P : Program} {w : World} {K : PySem.W.Frag} {mg : Str → Option Value} {base : Heap} {k : Nat} {f__law_take : Fn} {f__law_drawn_rule : Fn} {f__law_fit_rules : Fn} {f__law_pick : Fn} {f__law_bases : Fn} {f__law_shuffled : Fn} {f__law_renamed : Fn} {f__law_varied : Fn} (T : Top K mg) (D : DefAt K mg "_law_protocol" s__law_protocol ["row", "spot"]) (h__law_take : GFn P w K mg base k "_law_take" ["row", "spot", "limit"] f__law_take) (h__law_drawn_rule : GFn P w K mg base k "_law_drawn_rule" ["row", "spot", "states", "host"] f__law_drawn_rule) (h__law_fit_rules : GFn P w K mg base k "_law_fit_rules" ["rules"] f__law_fit_rules) (h__law_pick : GFn P w K mg base k "_law_pick" ["row", "spot", "things"] f__law_pick) (h__law_bases : GFn P w K mg base k "_law_bases" [] f__law_bases) (h__law_shuffled : GFn P w K mg base k "_law_shuffled" ["row", "spot", "many"] f__law_shuffled) (h__law_renamed : GFn P w K mg base k "_law_renamed" ["row", "spot", "side", "frames"] f__law_renamed) (h__law_varied : GFn P w K mg base k "_law_varied" ["row", "spot", "side", "host"] f__law_varied) :
    GFn P w K mg base (k + 1) "_law_protocol" ["row", "spot"] (runB 10 (b__law_protocol f__law_take f__law_drawn_rule f__law_fit_rules f__law_pick f__law_bases f__law_shuffled f__law_renamed f__law_varied)) := by
  refine g_def (N := N__law_protocol) D sc__law_protocol fun f cdv A outer s0 H E hr => ?_
  have nd := sc__law_protocol.nd
  have tk : Takes (cxOf (L2.CX P w) P w K mg base N__law_protocol "_law_protocol" (defScope s__law_protocol) f cdv A outer s0 H E) (fun cls d _ H => E cls d H) := takes_of rfl rfl rfl rfl
  have po : PassesOwn (model P w) (cxOf (L2.CX P w) P w K mg base N__law_protocol "_law_protocol" (defScope s__law_protocol) f cdv A outer s0 H E).A (cxOf (L2.CX P w) P w K mg base N__law_protocol "_law_protocol" (defScope s__law_protocol) f cdv A outer s0 H E).env (cxOf (L2.CX P w) P w K mg base N__law_protocol "_law_protocol" (defScope s__law_protocol) f cdv A outer s0 H E).xe := passes_of rfl
  exact (sl_cons (ss_if (sb_cmp (o_eq hr.units) (se_g h__law_take hr rfl tk (sa_cons (se_v 0) (sa_cons (se_v 1) (sa_cons se_int sa_nil))) (nargs_cons (nargs_cons (nargs_cons nargs_nil)))) se_int (nomark _)) (sl_cons (ss_set (i := 2) nd rfl (by first | exact Or.inl rfl | exact Or.inr rfl) (se_lst sa_nil))
    (sl_cons (ss_for po rfl (si_seq (se_tup (sa_cons se_bl (sa_cons se_bl sa_nil)))) (sg_name (i := 3) nd rfl (by first | exact Or.inl rfl | exact Or.inr rfl)) (sl_cons (ss_set (i := 4) nd rfl (by first | exact Or.inl rfl | exact Or.inr rfl) (se_bin o_add se_int (se_g h__law_take hr rfl tk (sa_cons (se_v 0) (sa_cons (se_v 1) (sa_cons se_int sa_nil))) (nargs_cons (nargs_cons (nargs_cons nargs_nil))))))
    (sl_cons (ss_setLc (i := 5) (own := [("k", 6)]) rfl nd rfl rfl (sw_true rfl rfl rfl (by decide +kernel)) (si_range1 rfl T.n_range (sa_cons (se_g h__law_take hr rfl tk (sa_cons (se_v 0) (sa_cons (se_v 1) (sa_cons se_int sa_nil))) (nargs_cons (nargs_cons (nargs_cons nargs_nil)))) sa_nil)) (blkOk_by (own := [("k", 6)]) (N := N__law_protocol) (sc := defScope s__law_protocol) (by decide +kernel)) (fun _ _ _ _ _ => (so_name (i := 6) nd rfl (by first | exact Or.inl rfl | exact Or.inr rfl) (by decide))) (fun _ _ _ _ _ => sts_nil) (fun _ _ _ _ _ => (se_g h__law_drawn_rule hr rfl takes_WX0 (sa_cons (se_v 0) (sa_cons (se_v 1) (sa_cons (se_v 4) (sa_cons (se_v 3) sa_nil)))) (nargs_cons (nargs_cons (nargs_cons (nargs_cons nargs_nil)))))))
    (sl_one (ss_expr (se_append (se_v 2) (sa_cons (se_tup (sa_cons (se_v 4) (sa_cons (se_g h__law_take hr rfl tk (sa_cons (se_v 0) (sa_cons (se_v 1) (sa_cons (se_v 4) sa_nil))) (nargs_cons (nargs_cons (nargs_cons nargs_nil)))) (sa_cons (se_g h__law_fit_rules hr rfl tk (sa_cons (se_v 5) sa_nil) (nargs_cons nargs_nil)) sa_nil)))) sa_nil)))))))
    (sl_one (ss_ret (se_callTy c_tuple rfl T.n_tuple (by decide +kernel) (sa_cons (se_v 2) sa_nil)))))) sl_nil)
    (sl_cons (ss_set (i := 7) nd rfl (by first | exact Or.inl rfl | exact Or.inr rfl) (se_g h__law_pick hr rfl tk (sa_cons (se_v 0) (sa_cons (se_v 1) (sa_cons (se_g0 h__law_bases hr rfl tk) sa_nil))) (nargs_cons (nargs_cons (nargs_cons nargs_nil)))))
    (sl_cons (ss_set (i := 8) nd rfl (by first | exact Or.inl rfl | exact Or.inr rfl) (se_g h__law_shuffled hr rfl tk (sa_cons (se_v 0) (sa_cons (se_v 1) (sa_cons se_int sa_nil))) (nargs_cons (nargs_cons (nargs_cons nargs_nil)))))
    (sl_cons (ss_asg (se_tup (sa_cons (se_g h__law_renamed hr rfl tk (sa_cons (se_v 0) (sa_cons (se_v 1) (sa_cons (se_ix o_ix (se_v 7) se_int) (sa_cons (se_v 8) sa_nil)))) (nargs_cons (nargs_cons (nargs_cons (nargs_cons nargs_nil))))) (sa_cons (se_g h__law_renamed hr rfl tk (sa_cons (se_v 0) (sa_cons (se_v 1) (sa_cons (se_ix o_ix (se_v 7) se_int) (sa_cons (se_v 8) sa_nil)))) (nargs_cons (nargs_cons (nargs_cons (nargs_cons nargs_nil))))) sa_nil))) (sg_seq rfl (sgs_cons (sg_name (i := 3) nd rfl (by first | exact Or.inl rfl | exact Or.inr rfl)) (sgs_cons (sg_name (i := 9) nd rfl (by first | exact Or.inl rfl | exact Or.inr rfl)) sgs_nil))))
    (sl_cons (ss_for po rfl (si_range1 rfl T.n_range (sa_cons (se_ix o_ix (se_lst (sa_cons se_int (sa_cons se_int (sa_cons se_int (sa_cons se_int (sa_cons se_int sa_nil)))))) (se_g h__law_take hr rfl tk (sa_cons (se_v 0) (sa_cons (se_v 1) (sa_cons se_int sa_nil))) (nargs_cons (nargs_cons (nargs_cons nargs_nil))))) sa_nil)) (sg_name (i := 6) nd rfl (by first | exact Or.inl rfl | exact Or.inr rfl)) (sl_one (ss_if (sb_cmp (o_eq hr.units) (se_g h__law_take hr rfl tk (sa_cons (se_v 0) (sa_cons (se_v 1) (sa_cons se_int sa_nil))) (nargs_cons (nargs_cons (nargs_cons nargs_nil)))) se_int (nomark _)) (sl_one (ss_set (i := 3) nd rfl (by first | exact Or.inl rfl | exact Or.inr rfl) (se_g h__law_varied hr rfl tk (sa_cons (se_v 0) (sa_cons (se_v 1) (sa_cons (se_v 3) (sa_cons se_bl sa_nil)))) (nargs_cons (nargs_cons (nargs_cons (nargs_cons nargs_nil))))))) (sl_one (ss_set (i := 9) nd rfl (by first | exact Or.inl rfl | exact Or.inr rfl) (se_g h__law_varied hr rfl tk (sa_cons (se_v 0) (sa_cons (se_v 1) (sa_cons (se_v 9) (sa_cons se_bl sa_nil)))) (nargs_cons (nargs_cons (nargs_cons (nargs_cons nargs_nil))))))))))
    (sl_one (ss_ret (se_tup (sa_cons (se_v 3) (sa_cons (se_v 9) sa_nil))))))))))

abbrev s__law_either : Stmt := top 22
abbrev N__law_either : List Str := ["row", "spot", "value", "parts", "one"]
theorem sc__law_either : FnScope N__law_either ["row", "spot", "value"] (defScope s__law_either) := ⟨rfl, rfl, rfl, by decide +kernel, rfl, by decide +kernel, by decide +kernel⟩
theorem k__law_either {P : Program} {w : World} {K : PySem.W.Frag} {mg : Str → Option Value} {base : Heap} {k : Nat} {f__law_either : Fn} {f__law_take : Fn} (T : Top K mg) (D : DefAt K mg "_law_either" s__law_either ["row", "spot", "value"]) (h__law_either : GFn P w K mg base k "_law_either" ["row", "spot", "value"] f__law_either) (h__law_take : GFn P w K mg base k "_law_take" ["row", "spot", "limit"] f__law_take) :
    GFn P w K mg base (k + 1) "_law_either" ["row", "spot", "value"] (runB 5 (b__law_either f__law_either f__law_take)) := by
  refine g_def (N := N__law_either) D sc__law_either fun f cdv A outer s0 H E hr => ?_
  have nd := sc__law_either.nd
  have tk : Takes (cxOf (L2.CX P w) P w K mg base N__law_either "_law_either" (defScope s__law_either) f cdv A outer s0 H E) (fun cls d _ H => E cls d H) := takes_of rfl rfl rfl rfl
  have po : PassesOwn (model P w) (cxOf (L2.CX P w) P w K mg base N__law_either "_law_either" (defScope s__law_either) f cdv A outer s0 H E).A (cxOf (L2.CX P w) P w K mg base N__law_either "_law_either" (defScope s__law_either) f cdv A outer s0 H E).env (cxOf (L2.CX P w) P w K mg base N__law_either "_law_either" (defScope s__law_either) f cdv A outer s0 H E).xe := passes_of rfl
  exact (sl_cons (ss_if (sb_e (se_callB c_isi rfl T.n_isinstance (by decide +kernel) (sa_cons (se_v 2) (sa_cons (se_ty rfl T.n_tuple (by decide +kernel)) sa_nil)))) (sl_cons (ss_setLc (i := 3) (own := [("one", 4)]) rfl nd rfl rfl (sw_true rfl rfl rfl (by decide +kernel)) (si_seq (se_v 2)) (blkOk_by (own := [("one", 4)]) (N := N__law_either) (sc := defScope s__law_either) (by decide +kernel)) (fun _ _ _ _ _ => (so_name (i := 4) nd rfl (by first | exact Or.inl rfl | exact Or.inr rfl) (by decide))) (fun _ _ _ _ _ => sts_nil) (fun _ _ _ _ _ => (se_g h__law_either hr rfl takes_WX0 (sa_cons (se_v 0) (sa_cons (se_v 1) (sa_cons (se_v 4) sa_nil))) (nargs_cons (nargs_cons (nargs_cons nargs_nil))))))
    (sl_one (ss_ret (se_if (sb_cmp (o_eq hr.units) (se_g h__law_take hr rfl tk (sa_cons (se_v 0) (sa_cons (se_v 1) (sa_cons se_int sa_nil))) (nargs_cons (nargs_cons (nargs_cons nargs_nil)))) se_int (nomark _)) (se_v 3) (se_callTy c_tuple rfl T.n_tuple (by decide +kernel) (sa_cons (se_v 3) sa_nil)))))) sl_nil)
    (sl_one (ss_ret (se_v 2))))

abbrev s__law_listed : Stmt := top 20
abbrev N__law_listed : List Str := ["value", "one"]
theorem sc__law_listed : FnScope N__law_listed ["value"] (defScope s__law_listed) := ⟨rfl, rfl, rfl, by decide +kernel, rfl, by decide +kernel, by decide +kernel⟩
theorem k__law_listed {P : Program} {w : World} {K : PySem.W.Frag} {mg : Str → Option Value} {base : Heap} {k : Nat} {f__law_listed : Fn} (T : Top K mg) (D : DefAt K mg "_law_listed" s__law_listed ["value"]) (h__law_listed : GFn P w K mg base k "_law_listed" ["value"] f__law_listed) :
    GFn P w K mg base (k + 1) "_law_listed" ["value"] (runB 2 (b__law_listed f__law_listed)) := by
  refine g_def (N := N__law_listed) D sc__law_listed fun f cdv A outer s0 H E hr => ?_
  have nd := sc__law_listed.nd
  have tk : Takes (cxOf (L2.CX P w) P w K mg base N__law_listed "_law_listed" (defScope s__law_listed) f cdv A outer s0 H E) (fun cls d _ H => E cls d H) := takes_of rfl rfl rfl rfl
  have po : PassesOwn (model P w) (cxOf (L2.CX P w) P w K mg base N__law_listed "_law_listed" (defScope s__law_listed) f cdv A outer s0 H E).A (cxOf (L2.CX P w) P w K mg base N__law_listed "_law_listed" (defScope s__law_listed) f cdv A outer s0 H E).env (cxOf (L2.CX P w) P w K mg base N__law_listed "_law_listed" (defScope s__law_listed) f cdv A outer s0 H E).xe := passes_of rfl
  exact (sl_cons (ss_if (sb_e (se_callB c_isi rfl T.n_isinstance (by decide +kernel) (sa_cons (se_v 0) (sa_cons (se_ty rfl T.n_tuple (by decide +kernel)) sa_nil)))) (sl_one (ss_ret (se_lc (own := [("one", 1)]) rfl nd (si_seq (se_v 0)) (blkOk_by (own := [("one", 1)]) (N := N__law_listed) (sc := defScope s__law_listed) (by decide +kernel)) (fun _ _ _ _ _ => (so_name (i := 1) nd rfl (by first | exact Or.inl rfl | exact Or.inr rfl) (by decide))) (fun _ _ _ _ _ => sts_nil) (fun _ _ _ _ _ => (se_g h__law_listed hr rfl takes_WX0 (sa_cons (se_v 1) sa_nil) (nargs_cons nargs_nil)))))) sl_nil)
    (sl_one (ss_ret (se_v 0))))

abbrev s__law_handed : Stmt := top 23
abbrev N__law_handed : List Str := ["row", "spot", "value", "kind"]
theorem sc__law_handed : FnScope N__law_handed ["row", "spot", "value"] (defScope s__law_handed) := ⟨rfl, rfl, rfl, by decide +kernel, rfl, by decide +kernel, by decide +kernel⟩
theorem k__law_handed {P : Program} {w : World} {K : PySem.W.Frag} {mg : Str → Option Value} {base : Heap} {k : Nat} {f__law_take : Fn} {f__law_either : Fn} {f__law_listed : Fn} (T : Top K mg) (D : DefAt K mg "_law_handed" s__law_handed ["row", "spot", "value"]) (h__law_take : GFn P w K mg base k "_law_take" ["row", "spot", "limit"] f__law_take) (h__law_either : GFn P w K mg base k "_law_either" ["row", "spot", "value"] f__law_either) (h__law_listed : GFn P w K mg base k "_law_listed" ["value"] f__law_listed) :
    GFn P w K mg base (k + 1) "_law_handed" ["row", "spot", "value"] (runB 4 (b__law_handed f__law_take f__law_either f__law_listed)) := by
  refine g_def (N := N__law_handed) D sc__law_handed fun f cdv A outer s0 H E hr => ?_
  have nd := sc__law_handed.nd
  have tk : Takes (cxOf (L2.CX P w) P w K mg base N__law_handed "_law_handed" (defScope s__law_handed) f cdv A outer s0 H E) (fun cls d _ H => E cls d H) := takes_of rfl rfl rfl rfl
  have po : PassesOwn (model P w) (cxOf (L2.CX P w) P w K mg base N__law_handed "_law_handed" (defScope s__law_handed) f cdv A outer s0 H E).A (cxOf (L2.CX P w) P w K mg base N__law_handed "_law_handed" (defScope s__law_handed) f cdv A outer s0 H E).env (cxOf (L2.CX P w) P w K mg base N__law_handed "_law_handed" (defScope s__law_handed) f cdv A outer s0 H E).xe := passes_of rfl
  exact (sl_cons (ss_set (i := 3) nd rfl (by first | exact Or.inl rfl | exact Or.inr rfl) (se_g h__law_take hr rfl tk (sa_cons (se_v 0) (sa_cons (se_v 1) (sa_cons se_int sa_nil))) (nargs_cons (nargs_cons (nargs_cons nargs_nil)))))
    (sl_cons (ss_if (sb_cmp (o_eq hr.units) (se_v 3) se_int (nomark _)) (sl_one (ss_ret (se_g h__law_either hr rfl tk (sa_cons (se_v 0) (sa_cons (se_v 1) (sa_cons (se_v 2) sa_nil))) (nargs_cons (nargs_cons (nargs_cons nargs_nil)))))) sl_nil)
    (sl_one (ss_ret (se_if (sb_cmp (o_eq hr.units) (se_v 3) se_int (nomark _)) (se_g h__law_listed hr rfl tk (sa_cons (se_v 2) sa_nil) (nargs_cons nargs_nil)) (se_v 2))))))

abbrev s__law_spoilt_protocol : Stmt := top 36
abbrev N__law_spoilt_protocol : List Str := ["row", "spot", "value", "at", "turn"]
theorem sc__law_spoilt_protocol : FnScope N__law_spoilt_protocol ["row", "spot", "value"] (defScope s__law_spoilt_protocol) := ⟨rfl, rfl, rfl, by decide +kernel, rfl, by decide +kernel, by decide +kernel⟩
theorem k__law_spoilt_protocol {P : Program} {w : World} {K : PySem.W.Frag} {mg : Str → Option Value} {base : Heap} {k : Nat} {f__law_take : Fn} {f__law_spoilt_protocol : Fn} {f__law_pick : Fn} {f__law_whens : Fn} (T : Top K mg) (D : DefAt K mg "_law_spoilt_protocol" s__law_spoilt_protocol ["row", "spot", "value"]) (h__law_take : GFn P w K mg base k "_law_take" ["row", "spot", "limit"] f__law_take) (h__law_spoilt_protocol : GFn P w K mg base k "_law_spoilt_protocol" ["row", "spot", "value"] f__law_spoilt_protocol) (h__law_pick : GFn P w K mg base k "_law_pick" ["row", "spot", "things"] f__law_pick) (h__law_whens : GFn P w K mg base k "_law_whens" [] f__law_whens) :
    GFn P w K mg base (k + 1) "_law_spoilt_protocol" ["row", "spot", "value"] (runB 5 (b__law_spoilt_protocol f__law_take f__law_spoilt_protocol f__law_pick f__law_whens)) := by
  refine g_def (N := N__law_spoilt_protocol) D sc__law_spoilt_protocol fun f cdv A outer s0 H E hr => ?_
  have nd := sc__law_spoilt_protocol.nd
  have tk : Takes (cxOf (L2.CX P w) P w K mg base N__law_spoilt_protocol "_law_spoilt_protocol" (defScope s__law_spoilt_protocol) f cdv A outer s0 H E) (fun cls d _ H => E cls d H) := takes_of rfl rfl rfl rfl
  have po : PassesOwn (model P w) (cxOf (L2.CX P w) P w K mg base N__law_spoilt_protocol "_law_spoilt_protocol" (defScope s__law_spoilt_protocol) f cdv A outer s0 H E).A (cxOf (L2.CX P w) P w K mg base N__law_spoilt_protocol "_law_spoilt_protocol" (defScope s__law_spoilt_protocol) f cdv A outer s0 H E).env (cxOf (L2.CX P w) P w K mg base N__law_spoilt_protocol "_law_spoilt_protocol" (defScope s__law_spoilt_protocol) f cdv A outer s0 H E).xe := passes_of rfl
  exact (sl_cons (ss_if (sb_w (sw_and (sb_e (se_callB c_isi rfl T.n_isinstance (by decide +kernel) (sa_cons (se_v 2) (sa_cons (se_ty rfl T.n_tuple (by decide +kernel)) sa_nil)))) (sw_and (sb_cmp o_gt (se_callB c_len rfl T.n_len (by decide +kernel) (sa_cons (se_v 2) sa_nil)) se_int (nomark _)) (sw_and1 (sb_cmp o_gt (se_g h__law_take hr rfl tk (sa_cons (se_v 0) (sa_cons (se_v 1) (sa_cons se_int sa_nil))) (nargs_cons (nargs_cons (nargs_cons nargs_nil)))) se_int (nomark _)))))) (sl_cons (ss_set (i := 3) nd rfl (by first | exact Or.inl rfl | exact Or.inr rfl) (se_g h__law_take hr rfl tk (sa_cons (se_v 0) (sa_cons (se_v 1) (sa_cons (se_callB c_len rfl T.n_len (by decide +kernel) (sa_cons (se_v 2) sa_nil)) sa_nil))) (nargs_cons (nargs_cons (nargs_cons nargs_nil)))))
    (sl_one (ss_ret (se_bin o_add (se_bin o_add (se_slice (se_v 2) sp_none (sp_some (se_v 3))) (se_tup (sa_cons (se_g h__law_spoilt_protocol hr rfl tk (sa_cons (se_v 0) (sa_cons (se_v 1) (sa_cons (se_ix o_ix (se_v 2) (se_v 3)) sa_nil))) (nargs_cons (nargs_cons (nargs_cons nargs_nil)))) sa_nil))) (se_slice (se_v 2) (sp_some (se_bin o_add (se_v 3) se_int)) sp_none))))) sl_nil)
    (sl_cons (ss_set (i := 4) nd rfl (by first | exact Or.inl rfl | exact Or.inr rfl) (se_g h__law_take hr rfl tk (sa_cons (se_v 0) (sa_cons (se_v 1) (sa_cons se_int sa_nil))) (nargs_cons (nargs_cons (nargs_cons nargs_nil)))))
    (sl_cons (ss_if (sb_w (sw_and (sb_e (se_callB c_isi rfl T.n_isinstance (by decide +kernel) (sa_cons (se_v 2) (sa_cons (se_ty rfl T.n_tuple (by decide +kernel)) sa_nil)))) (sw_and (sb_cmp (o_eq hr.units) (se_v 4) se_int (nomark _)) (sw_and1 (sb_cmp o_gt (se_callB c_len rfl T.n_len (by decide +kernel) (sa_cons (se_v 2) sa_nil)) se_int (nomark _)))))) (sl_one (ss_ret (se_bin o_add (se_v 2) (se_slice (se_v 2) sp_none (sp_some se_int))))) sl_nil)
    (sl_cons (ss_if (sb_w (sw_and (sb_e (se_callB c_isi rfl T.n_isinstance (by decide +kernel) (sa_cons (se_v 2) (sa_cons (se_ty rfl T.n_tuple (by decide +kernel)) sa_nil)))) (sw_and (sb_cmp (o_eq hr.units) (se_v 4) se_int (nomark _)) (sw_and1 (sb_cmp o_gt (se_callB c_len rfl T.n_len (by decide +kernel) (sa_cons (se_v 2) sa_nil)) se_int (nomark _)))))) (sl_one (ss_ret (se_slice (se_v 2) (sp_some se_int) sp_none))) sl_nil)
    (sl_cons (ss_if (sb_w (sw_and (sb_e (se_callB c_isi rfl T.n_isinstance (by decide +kernel) (sa_cons (se_v 2) (sa_cons (se_ty rfl T.n_tuple (by decide +kernel)) sa_nil)))) (sw_and (sb_cmp (o_eq hr.units) (se_v 4) se_int (nomark _)) (sw_and1 (sb_cmp o_gt (se_callB c_len rfl T.n_len (by decide +kernel) (sa_cons (se_v 2) sa_nil)) se_int (nomark _)))))) (sl_one (ss_ret (se_bin o_add (se_slice (se_v 2) (sp_some se_int) sp_none) (se_slice (se_v 2) sp_none (sp_some se_int))))) sl_nil)
    (sl_cons (ss_if (sb_w (sw_and (sb_e (se_callB c_isi rfl T.n_isinstance (by decide +kernel) (sa_cons (se_v 2) (sa_cons (se_ty rfl T.n_int (by decide +kernel)) sa_nil)))) (sw_and1 (sb_cmp o_lt (se_v 4) se_int (nomark _))))) (sl_one (ss_ret (se_ix o_ix (se_lst (sa_cons (se_bin o_add (se_v 2) se_int) (sa_cons (se_bin o_sub (se_v 2) se_int) (sa_cons se_int (sa_cons se_int (sa_cons se_int (sa_cons se_int (sa_cons se_non (sa_cons se_bl sa_nil))))))))) (se_g h__law_take hr rfl tk (sa_cons (se_v 0) (sa_cons (se_v 1) (sa_cons se_int sa_nil))) (nargs_cons (nargs_cons (nargs_cons nargs_nil))))))) sl_nil)
    (sl_cons (ss_if (sb_w (sw_and (sb_e (se_callB c_isi rfl T.n_isinstance (by decide +kernel) (sa_cons (se_v 2) (sa_cons (se_ty rfl T.n_str (by decide +kernel)) sa_nil)))) (sw_and1 (sb_cmp o_lt (se_v 4) se_int (nomark _))))) (sl_one (ss_ret (se_g h__law_pick hr rfl tk (sa_cons (se_v 0) (sa_cons (se_v 1) (sa_cons (se_bin o_add (se_g0 h__law_whens hr rfl tk) (se_lst (sa_cons se_str (sa_cons se_str (sa_cons se_str (sa_cons se_str (sa_cons se_str (sa_cons se_str (sa_cons se_str (sa_cons se_str (sa_cons se_str (sa_cons se_str sa_nil)))))))))))) sa_nil))) (nargs_cons (nargs_cons (nargs_cons nargs_nil)))))) sl_nil)
    (sl_one (ss_ret (se_ix o_ix (se_lst (sa_cons se_non (sa_cons se_int (sa_cons se_bl (sa_cons se_str (sa_cons (se_tup sa_nil) (sa_cons (se_tup (sa_cons se_int (sa_cons se_str (sa_cons se_int (sa_cons se_str sa_nil))))) (sa_cons (se_tup (sa_cons se_int (sa_cons se_int (sa_cons (se_tup sa_nil) sa_nil)))) (sa_cons se_str sa_nil))))))))) (se_g h__law_take hr rfl tk (sa_cons (se_v 0) (sa_cons (se_v 1) (sa_cons se_int sa_nil))) (nargs_cons (nargs_cons (nargs_cons nargs_nil))))))))))))))

abbrev s__law_so : Stmt := top 15
abbrev N__law_so : List Str := ["found", "meant", "k"]
theorem sc__law_so : FnScope N__law_so ["found", "meant"] (defScope s__law_so) := ⟨rfl, rfl, rfl, by decide +kernel, rfl, by decide +kernel, by decide +kernel⟩
theorem k__law_so {P : Program} {w : World} {K : PySem.W.Frag} {mg : Str → Option Value} {base : Heap} {k : Nat} {f__law_so : Fn} (T : Top K mg) (D : DefAt K mg "_law_so" s__law_so ["found", "meant"]) (h__law_so : GFn P w K mg base k "_law_so" ["found", "meant"] f__law_so) :
    GFn P w K mg base (k + 1) "_law_so" ["found", "meant"] (runB 3 (b__law_so f__law_so)) := by
  refine g_def (N := N__law_so) D sc__law_so fun f cdv A outer s0 H E hr => ?_
  have nd := sc__law_so.nd
  have tk : Takes (cxOf (L2.CX P w) P w K mg base N__law_so "_law_so" (defScope s__law_so) f cdv A outer s0 H E) (fun cls d _ H => E cls d H) := takes_of rfl rfl rfl rfl
  have po : PassesOwn (model P w) (cxOf (L2.CX P w) P w K mg base N__law_so "_law_so" (defScope s__law_so) f cdv A outer s0 H E).A (cxOf (L2.CX P w) P w K mg base N__law_so "_law_so" (defScope s__law_so) f cdv A outer s0 H E).env (cxOf (L2.CX P w) P w K mg base N__law_so "_law_so" (defScope s__law_so) f cdv A outer s0 H E).xe := passes_of rfl
  exact (sl_cons (ss_if (sb_cmp o_is (se_v 1) se_non (nomark _)) (sl_one (ss_ret (se_cmp o_is (se_v 0) se_non (nomark _)))) sl_nil)
    (sl_cons (ss_if (sb_e (se_callB c_isi rfl T.n_isinstance (by decide +kernel) (sa_cons (se_v 1) (sa_cons (se_ty rfl T.n_tuple (by decide +kernel)) sa_nil)))) (sl_cons (ss_if (sb_w (sw_or (sb_not (sb_e (se_callB c_isi rfl T.n_isinstance (by decide +kernel) (sa_cons (se_v 0) (sa_cons (se_ty rfl T.n_tuple (by decide +kernel)) sa_nil))))) (sw_or1 (sb_cmp (o_ne hr.units) (se_callB c_len rfl T.n_len (by decide +kernel) (sa_cons (se_v 0) sa_nil)) (se_callB c_len rfl T.n_len (by decide +kernel) (sa_cons (se_v 1) sa_nil)) (nomark _))))) (sl_one (ss_ret se_bl)) sl_nil)
    (sl_cons (ss_for po rfl (si_range1 rfl T.n_range (sa_cons (se_callB c_len rfl T.n_len (by decide +kernel) (sa_cons (se_v 1) sa_nil)) sa_nil)) (sg_name (i := 2) nd rfl (by first | exact Or.inl rfl | exact Or.inr rfl)) (sl_one (ss_if (sb_not (sb_e (se_g h__law_so hr rfl tk (sa_cons (se_ix o_ix (se_v 0) (se_v 2)) (sa_cons (se_ix o_ix (se_v 1) (se_v 2)) sa_nil)) (nargs_cons (nargs_cons nargs_nil))))) (sl_one (ss_ret se_bl)) sl_nil)))
    (sl_one (ss_ret se_bl)))) sl_nil)
    (sl_cons (ss_if (sb_w (sw_or (sb_e (se_callB c_isi rfl T.n_isinstance (by decide +kernel) (sa_cons (se_v 1) (sa_cons (se_ty rfl T.n_bool (by decide +kernel)) sa_nil)))) (sw_or1 (sb_e (se_callB c_isi rfl T.n_isinstance (by decide +kernel) (sa_cons (se_v 0) (sa_cons (se_ty rfl T.n_bool (by decide +kernel)) sa_nil))))))) (sl_one (ss_ret (se_and (se_callB c_isi rfl T.n_isinstance (by decide +kernel) (sa_cons (se_v 1) (sa_cons (se_ty rfl T.n_bool (by decide +kernel)) sa_nil))) (se_and (se_callB c_isi rfl T.n_isinstance (by decide +kernel) (sa_cons (se_v 0) (sa_cons (se_ty rfl T.n_bool (by decide +kernel)) sa_nil))) (se_one (se_cmp (o_eq hr.units) (se_v 0) (se_v 1) (nomark _))))))) sl_nil)
    (sl_cons (ss_if (sb_e (se_callB c_isi rfl T.n_isinstance (by decide +kernel) (sa_cons (se_v 1) (sa_cons (se_ty rfl T.n_int (by decide +kernel)) sa_nil)))) (sl_one (ss_ret (se_and (se_callB c_isi rfl T.n_isinstance (by decide +kernel) (sa_cons (se_v 0) (sa_cons (se_ty rfl T.n_int (by decide +kernel)) sa_nil))) (se_one (se_cmp (o_eq hr.units) (se_v 0) (se_v 1) (nomark _)))))) sl_nil)
    (sl_one (ss_ret (se_and (se_callB c_isi rfl T.n_isinstance (by decide +kernel) (sa_cons (se_v 1) (sa_cons (se_ty rfl T.n_str (by decide +kernel)) sa_nil))) (se_and (se_callB c_isi rfl T.n_isinstance (by decide +kernel) (sa_cons (se_v 0) (sa_cons (se_ty rfl T.n_str (by decide +kernel)) sa_nil))) (se_one (se_cmp (o_eq hr.units) (se_v 0) (se_v 1) (nomark _)))))))))))

abbrev s_is_sequence : Stmt := top 3
abbrev N_is_sequence : List Str := ["value"]
theorem sc_is_sequence : FnScope N_is_sequence ["value"] (defScope s_is_sequence) := ⟨rfl, rfl, rfl, by decide +kernel, rfl, by decide +kernel, by decide +kernel⟩
theorem k_is_sequence {P : Program} {w : World} {K : PySem.W.Frag} {mg : Str → Option Value} {base : Heap} {k : Nat} (T : Top K mg) (D : DefAt K mg "is_sequence" s_is_sequence ["value"]) :
    GFn P w K mg base (k + 1) "is_sequence" ["value"] (runB 1 (b_is_sequence)) := by
  refine g_def (N := N_is_sequence) D sc_is_sequence fun f cdv A outer s0 H E hr => ?_
  have nd := sc_is_sequence.nd
  have tk : Takes (cxOf (L2.CX P w) P w K mg base N_is_sequence "is_sequence" (defScope s_is_sequence) f cdv A outer s0 H E) (fun cls d _ H => E cls d H) := takes_of rfl rfl rfl rfl
  have po : PassesOwn (model P w) (cxOf (L2.CX P w) P w K mg base N_is_sequence "is_sequence" (defScope s_is_sequence) f cdv A outer s0 H E).A (cxOf (L2.CX P w) P w K mg base N_is_sequence "is_sequence" (defScope s_is_sequence) f cdv A outer s0 H E).env (cxOf (L2.CX P w) P w K mg base N_is_sequence "is_sequence" (defScope s_is_sequence) f cdv A outer s0 H E).xe := passes_of rfl
  exact (sl_one (ss_ret (se_callB c_isi rfl T.n_isinstance (by decide +kernel) (sa_cons (se_v 0) (sa_cons (se_tup (sa_cons (se_ty rfl T.n_list (by decide +kernel)) (sa_cons (se_ty rfl T.n_tuple (by decide +kernel)) sa_nil))) sa_nil)))))

abbrev s_is_row : Stmt := top 4
abbrev N_is_row : List Str := ["value", "many"]
theorem sc_is_row : FnScope N_is_row ["value", "many"] (defScope s_is_row) := ⟨rfl, rfl, rfl, by decide +kernel, rfl, by decide +kernel, by decide +kernel⟩
theorem k_is_row {P : Program} {w : World} {K : PySem.W.Frag} {mg : Str → Option Value} {base : Heap} {k : Nat} {f_is_sequence : Fn} (T : Top K mg) (D : DefAt K mg "is_row" s_is_row ["value", "many"]) (h_is_sequence : GFn P w K mg base k "is_sequence" ["value"] f_is_sequence) :
    GFn P w K mg base (k + 1) "is_row" ["value", "many"] (runB 2 (b_is_row f_is_sequence)) := by
  refine g_def (N := N_is_row) D sc_is_row fun f cdv A outer s0 H E hr => ?_
  have nd := sc_is_row.nd
  have tk : Takes (cxOf (L2.CX P w) P w K mg base N_is_row "is_row" (defScope s_is_row) f cdv A outer s0 H E) (fun cls d _ H => E cls d H) := takes_of rfl rfl rfl rfl
  have po : PassesOwn (model P w) (cxOf (L2.CX P w) P w K mg base N_is_row "is_row" (defScope s_is_row) f cdv A outer s0 H E).A (cxOf (L2.CX P w) P w K mg base N_is_row "is_row" (defScope s_is_row) f cdv A outer s0 H E).env (cxOf (L2.CX P w) P w K mg base N_is_row "is_row" (defScope s_is_row) f cdv A outer s0 H E).xe := passes_of rfl
  exact (sl_one (ss_ret (se_and (se_g h_is_sequence hr rfl tk (sa_cons (se_v 0) sa_nil) (nargs_cons nargs_nil)) (se_one (se_cmp (o_eq hr.units) (se_callB c_len rfl T.n_len (by decide +kernel) (sa_cons (se_v 0) sa_nil)) (se_v 1) (nomark _))))))

abbrev s_is_integer : Stmt := top 1
abbrev N_is_integer : List Str := ["value"]
theorem sc_is_integer : FnScope N_is_integer ["value"] (defScope s_is_integer) := ⟨rfl, rfl, rfl, by decide +kernel, rfl, by decide +kernel, by decide +kernel⟩
theorem k_is_integer {P : Program} {w : World} {K : PySem.W.Frag} {mg : Str → Option Value} {base : Heap} {k : Nat} (T : Top K mg) (D : DefAt K mg "is_integer" s_is_integer ["value"]) :
    GFn P w K mg base (k + 1) "is_integer" ["value"] (runB 1 (b_is_integer)) := by
  refine g_def (N := N_is_integer) D sc_is_integer fun f cdv A outer s0 H E hr => ?_
  have nd := sc_is_integer.nd
  have tk : Takes (cxOf (L2.CX P w) P w K mg base N_is_integer "is_integer" (defScope s_is_integer) f cdv A outer s0 H E) (fun cls d _ H => E cls d H) := takes_of rfl rfl rfl rfl
  have po : PassesOwn (model P w) (cxOf (L2.CX P w) P w K mg base N_is_integer "is_integer" (defScope s_is_integer) f cdv A outer s0 H E).A (cxOf (L2.CX P w) P w K mg base N_is_integer "is_integer" (defScope s_is_integer) f cdv A outer s0 H E).env (cxOf (L2.CX P w) P w K mg base N_is_integer "is_integer" (defScope s_is_integer) f cdv A outer s0 H E).xe := passes_of rfl
  exact (sl_one (ss_ret (se_and (se_callB c_isi rfl T.n_isinstance (by decide +kernel) (sa_cons (se_v 0) (sa_cons (se_ty rfl T.n_int (by decide +kernel)) sa_nil))) (se_one (se_not (se_callB c_isi rfl T.n_isinstance (by decide +kernel) (sa_cons (se_v 0) (sa_cons (se_ty rfl T.n_bool (by decide +kernel)) sa_nil))))))))

abbrev s_is_integer_from : Stmt := top 2
abbrev N_is_integer_from : List Str := ["value", "low", "high"]
theorem sc_is_integer_from : FnScope N_is_integer_from ["value", "low", "high"] (defScope s_is_integer_from) := ⟨rfl, rfl, rfl, by decide +kernel, rfl, by decide +kernel, by decide +kernel⟩
theorem k_is_integer_from {P : Program} {w : World} {K : PySem.W.Frag} {mg : Str → Option Value} {base : Heap} {k : Nat} {f_is_integer : Fn} (T : Top K mg) (D : DefAt K mg "is_integer_from" s_is_integer_from ["value", "low", "high"]) (h_is_integer : GFn P w K mg base k "is_integer" ["value"] f_is_integer) :
    GFn P w K mg base (k + 1) "is_integer_from" ["value", "low", "high"] (runB 3 (b_is_integer_from f_is_integer)) := by
  refine g_def (N := N_is_integer_from) D sc_is_integer_from fun f cdv A outer s0 H E hr => ?_
  have nd := sc_is_integer_from.nd
  have tk : Takes (cxOf (L2.CX P w) P w K mg base N_is_integer_from "is_integer_from" (defScope s_is_integer_from) f cdv A outer s0 H E) (fun cls d _ H => E cls d H) := takes_of rfl rfl rfl rfl
  have po : PassesOwn (model P w) (cxOf (L2.CX P w) P w K mg base N_is_integer_from "is_integer_from" (defScope s_is_integer_from) f cdv A outer s0 H E).A (cxOf (L2.CX P w) P w K mg base N_is_integer_from "is_integer_from" (defScope s_is_integer_from) f cdv A outer s0 H E).env (cxOf (L2.CX P w) P w K mg base N_is_integer_from "is_integer_from" (defScope s_is_integer_from) f cdv A outer s0 H E).xe := passes_of rfl
  exact (sl_one (ss_ret (se_and (se_g h_is_integer hr rfl tk (sa_cons (se_v 0) sa_nil) (nargs_cons nargs_nil)) (se_one (se_chain o_le o_le (se_v 1) (se_v 0) (se_v 2))))))

abbrev s_is_rule : Stmt := top 10
abbrev N_is_rule : List Str := ["value", "states", "state", "when", "then", "act"]
theorem sc_is_rule : FnScope N_is_rule ["value", "states"] (defScope s_is_rule) := ⟨rfl, rfl, rfl, by decide +kernel, rfl, by decide +kernel, by decide +kernel⟩
theorem k_is_rule {P : Program} {w : World} {K : PySem.W.Frag} {mg : Str → Option Value} {base : Heap} {k : Nat} {f_is_row : Fn} {f_is_integer_from : Fn} (T : Top K mg) (D : DefAt K mg "is_rule" s_is_rule ["value", "states"]) (h_is_row : GFn P w K mg base k "is_row" ["value", "many"] f_is_row) (h_is_integer_from : GFn P w K mg base k "is_integer_from" ["value", "low", "high"] f_is_integer_from) :
    GFn P w K mg base (k + 1) "is_rule" ["value", "states"] (runB 6 (b_is_rule f_is_row f_is_integer_from)) := by
  refine g_def (N := N_is_rule) D sc_is_rule fun f cdv A outer s0 H E hr => ?_
  have nd := sc_is_rule.nd
  have tk : Takes (cxOf (L2.CX P w) P w K mg base N_is_rule "is_rule" (defScope s_is_rule) f cdv A outer s0 H E) (fun cls d _ H => E cls d H) := takes_of rfl rfl rfl rfl
  have po : PassesOwn (model P w) (cxOf (L2.CX P w) P w K mg base N_is_rule "is_rule" (defScope s_is_rule) f cdv A outer s0 H E).A (cxOf (L2.CX P w) P w K mg base N_is_rule "is_rule" (defScope s_is_rule) f cdv A outer s0 H E).env (cxOf (L2.CX P w) P w K mg base N_is_rule "is_rule" (defScope s_is_rule) f cdv A outer s0 H E).xe := passes_of rfl
  exact (sl_cons (ss_if (sb_not (sb_e (se_g h_is_row hr rfl tk (sa_cons (se_v 0) (sa_cons se_int sa_nil)) (nargs_cons (nargs_cons nargs_nil))))) (sl_one (ss_ret se_bl)) sl_nil)
    (sl_cons (ss_asg (se_v 0) (sg_seq rfl (sgs_cons (sg_name (i := 2) nd rfl (by first | exact Or.inl rfl | exact Or.inr rfl)) (sgs_cons (sg_name (i := 3) nd rfl (by first | exact Or.inl rfl | exact Or.inr rfl)) (sgs_cons (sg_name (i := 4) nd rfl (by first | exact Or.inl rfl | exact Or.inr rfl)) (sgs_cons (sg_name (i := 5) nd rfl (by first | exact Or.inl rfl | exact Or.inr rfl)) sgs_nil))))))
    (sl_cons (ss_if (sb_w (sw_or (sb_not (sb_e (se_g h_is_integer_from hr rfl tk (sa_cons (se_v 2) (sa_cons se_int (sa_cons (se_bin o_sub (se_v 1) se_int) sa_nil))) (nargs_cons (nargs_cons (nargs_cons nargs_nil)))))) (sw_or1 (sb_not (sb_e (se_g h_is_integer_from hr rfl tk (sa_cons (se_v 4) (sa_cons se_int (sa_cons (se_bin o_sub (se_v 1) se_int) sa_nil))) (nargs_cons (nargs_cons (nargs_cons nargs_nil))))))))) (sl_one (ss_ret se_bl)) sl_nil)
    (sl_cons (ss_if (sb_w (sw_or (sb_cmp (o_notin (hu65 hr)) (se_v 3) (se_gv T.c_WHENS rfl) rfl) (sw_or1 (sb_cmp (o_notin (hu65 hr)) (se_v 5) (se_gv T.c_ACTS rfl) rfl)))) (sl_one (ss_ret se_bl)) sl_nil)
    (sl_one (ss_ret (se_or (se_cmp (o_ne hr.units) (se_v 3) se_str (nomark _)) (se_one (se_cmp (o_eq hr.units) (se_v 5) se_str (nomark _))))))))))

abbrev s_is_side : Stmt := top 12
abbrev N_is_side : List Str := ["value", "barred", "states", "start", "rules", "rule", "pulled", "acts"]
theorem sc_is_side : FnScope N_is_side ["value", "barred"] (defScope s_is_side) := ⟨rfl, rfl, rfl, by decide +kernel, rfl, by decide +kernel, by decide +kernel⟩
theorem k_is_side {P : Program} {w : World} {K : PySem.W.Frag} {mg : Str → Option Value} {base : Heap} {k : Nat} {f_is_row : Fn} {f_is_integer_from : Fn} {f_is_sequence : Fn} {f_is_rule : Fn} {f_are_different : Fn} (T : Top K mg) (D : DefAt K mg "is_side" s_is_side ["value", "barred"]) (h_is_row : GFn P w K mg base k "is_row" ["value", "many"] f_is_row) (h_is_integer_from : GFn P w K mg base k "is_integer_from" ["value", "low", "high"] f_is_integer_from) (h_is_sequence : GFn P w K mg base k "is_sequence" ["value"] f_is_sequence) (h_is_rule : GFn P w K mg base k "is_rule" ["value", "states"] f_is_rule) (h_are_different : GFn P w K mg base k "are_different" ["values"] f_are_different) :
    GFn P w K mg base (k + 1) "is_side" ["value", "barred"] (runB 8 (b_is_side f_is_row f_is_integer_from f_is_sequence f_is_rule f_are_different)) := by
  refine g_def (N := N_is_side) D sc_is_side fun f cdv A outer s0 H E hr => ?_
  have nd := sc_is_side.nd
  have tk : Takes (cxOf (L2.CX P w) P w K mg base N_is_side "is_side" (defScope s_is_side) f cdv A outer s0 H E) (fun cls d _ H => E cls d H) := takes_of rfl rfl rfl rfl
  have po : PassesOwn (model P w) (cxOf (L2.CX P w) P w K mg base N_is_side "is_side" (defScope s_is_side) f cdv A outer s0 H E).A (cxOf (L2.CX P w) P w K mg base N_is_side "is_side" (defScope s_is_side) f cdv A outer s0 H E).env (cxOf (L2.CX P w) P w K mg base N_is_side "is_side" (defScope s_is_side) f cdv A outer s0 H E).xe := passes_of rfl
  exact (sl_cons (ss_if (sb_not (sb_e (se_g h_is_row hr rfl tk (sa_cons (se_v 0) (sa_cons se_int sa_nil)) (nargs_cons (nargs_cons nargs_nil))))) (sl_one (ss_ret se_bl)) sl_nil)
    (sl_cons (ss_asg (se_v 0) (sg_seq rfl (sgs_cons (sg_name (i := 2) nd rfl (by first | exact Or.inl rfl | exact Or.inr rfl)) (sgs_cons (sg_name (i := 3) nd rfl (by first | exact Or.inl rfl | exact Or.inr rfl)) (sgs_cons (sg_name (i := 4) nd rfl (by first | exact Or.inl rfl | exact Or.inr rfl)) sgs_nil)))))
    (sl_cons (ss_if (sb_w (sw_or (sb_not (sb_e (se_g h_is_integer_from hr rfl tk (sa_cons (se_v 2) (sa_cons se_int (sa_cons (se_gv T.c_MOST_STATES rfl) sa_nil))) (nargs_cons (nargs_cons (nargs_cons nargs_nil)))))) (sw_or1 (sb_not (sb_e (se_g h_is_integer_from hr rfl tk (sa_cons (se_v 3) (sa_cons se_int (sa_cons (se_bin o_sub (se_v 2) se_int) sa_nil))) (nargs_cons (nargs_cons (nargs_cons nargs_nil))))))))) (sl_one (ss_ret se_bl)) sl_nil)
    (sl_cons (ss_if (sb_w (sw_or (sb_not (sb_e (se_g h_is_sequence hr rfl tk (sa_cons (se_v 4) sa_nil) (nargs_cons nargs_nil)))) (sw_or1 (sb_cmp o_gt (se_callB c_len rfl T.n_len (by decide +kernel) (sa_cons (se_v 4) sa_nil)) (se_gv T.c_MOST_RULES rfl) (nomark _))))) (sl_one (ss_ret se_bl)) sl_nil)
    (sl_cons (ss_if (sb_not (sb_e (se_callB (c_all rfl) rfl T.n_all (by decide +kernel) (sa_cons (se_lc (own := [("rule", 5)]) rfl nd (si_seq (se_v 4)) (blkOk_by (own := [("rule", 5)]) (N := N_is_side) (sc := defScope s_is_side) (by decide +kernel)) (fun _ _ _ _ _ => (so_name (i := 5) nd rfl (by first | exact Or.inl rfl | exact Or.inr rfl) (by decide))) (fun _ _ _ _ _ => sts_nil) (fun _ _ _ _ _ => (se_g h_is_rule hr rfl takes_WX0 (sa_cons (se_v 5) (sa_cons (se_v 2) sa_nil)) (nargs_cons (nargs_cons nargs_nil))))) sa_nil)))) (sl_one (ss_ret se_bl)) sl_nil)
    (sl_cons (ss_setLc (i := 6) (own := [("rule", 5)]) rfl nd rfl rfl (sw_true rfl rfl rfl (by decide +kernel)) (si_seq (se_v 4)) (blkOk_by (own := [("rule", 5)]) (N := N_is_side) (sc := defScope s_is_side) (by decide +kernel)) (fun _ _ _ _ _ => (so_name (i := 5) nd rfl (by first | exact Or.inl rfl | exact Or.inr rfl) (by decide))) (fun _ _ _ _ _ => (sts_one (sb_cmp (o_eq hr.units) (se_ix o_ix (se_v 5) se_int) se_str (nomark _)))) (fun _ _ _ _ _ => (se_ix o_ix (se_v 5) se_int)))
    (sl_cons (ss_setLc (i := 7) (own := [("rule", 5)]) rfl nd rfl rfl (sw_true rfl rfl rfl (by decide +kernel)) (si_seq (se_v 4)) (blkOk_by (own := [("rule", 5)]) (N := N_is_side) (sc := defScope s_is_side) (by decide +kernel)) (fun _ _ _ _ _ => (so_name (i := 5) nd rfl (by first | exact Or.inl rfl | exact Or.inr rfl) (by decide))) (fun _ _ _ _ _ => sts_nil) (fun _ _ _ _ _ => (se_ix o_ix (se_v 5) se_int)))
    (sl_one (ss_ret (se_and (se_g h_are_different hr rfl tk (sa_cons (se_lc (own := [("rule", 5)]) rfl nd (si_seq (se_v 4)) (blkOk_by (own := [("rule", 5)]) (N := N_is_side) (sc := defScope s_is_side) (by decide +kernel)) (fun _ _ _ _ _ => (so_name (i := 5) nd rfl (by first | exact Or.inl rfl | exact Or.inr rfl) (by decide))) (fun _ _ _ _ _ => sts_nil) (fun _ _ _ _ _ => (se_callTy c_tuple rfl T.n_tuple (by decide +kernel) (sa_cons (se_v 5) sa_nil)))) sa_nil) (nargs_cons nargs_nil)) (se_and (se_g h_are_different hr rfl tk (sa_cons (se_v 6) sa_nil) (nargs_cons nargs_nil)) (se_one (se_cmp (o_notin (hu65 hr)) (se_v 1) (se_v 7) rfl)))))))))))))

abbrev s_is_protocol : Stmt := top 13
abbrev N_is_protocol : List Str := ["value"]
theorem sc_is_protocol : FnScope N_is_protocol ["value"] (defScope s_is_protocol) := ⟨rfl, rfl, rfl, by decide +kernel, rfl, by decide +kernel, by decide +kernel⟩
theorem k_is_protocol {P : Program} {w : World} {K : PySem.W.Frag} {mg : Str → Option Value} {base : Heap} {k : Nat} {f_is_row : Fn} {f_is_side : Fn} (T : Top K mg) (D : DefAt K mg "is_protocol" s_is_protocol ["value"]) (h_is_row : GFn P w K mg base k "is_row" ["value", "many"] f_is_row) (h_is_side : GFn P w K mg base k "is_side" ["value", "barred"] f_is_side) :
    GFn P w K mg base (k + 1) "is_protocol" ["value"] (runB 1 (b_is_protocol f_is_row f_is_side)) := by
  refine g_def (N := N_is_protocol) D sc_is_protocol fun f cdv A outer s0 H E hr => ?_
  have nd := sc_is_protocol.nd
  have tk : Takes (cxOf (L2.CX P w) P w K mg base N_is_protocol "is_protocol" (defScope s_is_protocol) f cdv A outer s0 H E) (fun cls d _ H => E cls d H) := takes_of rfl rfl rfl rfl
  have po : PassesOwn (model P w) (cxOf (L2.CX P w) P w K mg base N_is_protocol "is_protocol" (defScope s_is_protocol) f cdv A outer s0 H E).A (cxOf (L2.CX P w) P w K mg base N_is_protocol "is_protocol" (defScope s_is_protocol) f cdv A outer s0 H E).env (cxOf (L2.CX P w) P w K mg base N_is_protocol "is_protocol" (defScope s_is_protocol) f cdv A outer s0 H E).xe := passes_of rfl
  exact (sl_one (ss_ret (se_and (se_g h_is_row hr rfl tk (sa_cons (se_v 0) (sa_cons se_int sa_nil)) (nargs_cons (nargs_cons nargs_nil))) (se_and (se_g h_is_side hr rfl tk (sa_cons (se_ix o_ix (se_v 0) se_int) (sa_cons se_str sa_nil)) (nargs_cons (nargs_cons nargs_nil))) (se_one (se_g h_is_side hr rfl tk (sa_cons (se_ix o_ix (se_v 0) se_int) (sa_cons se_str sa_nil)) (nargs_cons (nargs_cons nargs_nil))))))))

abbrev s__law_tupled : Stmt := top 21
abbrev N__law_tupled : List Str := ["value", "one"]
theorem sc__law_tupled : FnScope N__law_tupled ["value"] (defScope s__law_tupled) := ⟨rfl, rfl, rfl, by decide +kernel, rfl, by decide +kernel, by decide +kernel⟩
theorem k__law_tupled {P : Program} {w : World} {K : PySem.W.Frag} {mg : Str → Option Value} {base : Heap} {k : Nat} {f__law_tupled : Fn} (T : Top K mg) (D : DefAt K mg "_law_tupled" s__law_tupled ["value"]) (h__law_tupled : GFn P w K mg base k "_law_tupled" ["value"] f__law_tupled) :
    GFn P w K mg base (k + 1) "_law_tupled" ["value"] (runB 2 (b__law_tupled f__law_tupled)) := by
  refine g_def (N := N__law_tupled) D sc__law_tupled fun f cdv A outer s0 H E hr => ?_
  have nd := sc__law_tupled.nd
  have tk : Takes (cxOf (L2.CX P w) P w K mg base N__law_tupled "_law_tupled" (defScope s__law_tupled) f cdv A outer s0 H E) (fun cls d _ H => E cls d H) := takes_of rfl rfl rfl rfl
  have po : PassesOwn (model P w) (cxOf (L2.CX P w) P w K mg base N__law_tupled "_law_tupled" (defScope s__law_tupled) f cdv A outer s0 H E).A (cxOf (L2.CX P w) P w K mg base N__law_tupled "_law_tupled" (defScope s__law_tupled) f cdv A outer s0 H E).env (cxOf (L2.CX P w) P w K mg base N__law_tupled "_law_tupled" (defScope s__law_tupled) f cdv A outer s0 H E).xe := passes_of rfl
  exact (sl_cons (ss_if (sb_w (sw_or (sb_e (se_callB c_isi rfl T.n_isinstance (by decide +kernel) (sa_cons (se_v 0) (sa_cons (se_ty rfl T.n_list (by decide +kernel)) sa_nil)))) (sw_or1 (sb_e (se_callB c_isi rfl T.n_isinstance (by decide +kernel) (sa_cons (se_v 0) (sa_cons (se_ty rfl T.n_tuple (by decide +kernel)) sa_nil))))))) (sl_one (ss_ret (se_callTy c_tuple rfl T.n_tuple (by decide +kernel) (sa_cons (se_lc (own := [("one", 1)]) rfl nd (si_seq (se_v 0)) (blkOk_by (own := [("one", 1)]) (N := N__law_tupled) (sc := defScope s__law_tupled) (by decide +kernel)) (fun _ _ _ _ _ => (so_name (i := 1) nd rfl (by first | exact Or.inl rfl | exact Or.inr rfl) (by decide))) (fun _ _ _ _ _ => sts_nil) (fun _ _ _ _ _ => (se_g h__law_tupled hr rfl takes_WX0 (sa_cons (se_v 1) sa_nil) (nargs_cons nargs_nil)))) sa_nil)))) sl_nil)
    (sl_one (ss_ret (se_v 0))))

abbrev s__law_whole : Stmt := top 19
abbrev N__law_whole : List Str := ["value"]
theorem sc__law_whole : FnScope N__law_whole ["value"] (defScope s__law_whole) := ⟨rfl, rfl, rfl, by decide +kernel, rfl, by decide +kernel, by decide +kernel⟩
theorem k__law_whole {P : Program} {w : World} {K : PySem.W.Frag} {mg : Str → Option Value} {base : Heap} {k : Nat} (T : Top K mg) (D : DefAt K mg "_law_whole" s__law_whole ["value"]) :
    GFn P w K mg base (k + 1) "_law_whole" ["value"] (runB 1 (b__law_whole)) := by
  refine g_def (N := N__law_whole) D sc__law_whole fun f cdv A outer s0 H E hr => ?_
  have nd := sc__law_whole.nd
  have tk : Takes (cxOf (L2.CX P w) P w K mg base N__law_whole "_law_whole" (defScope s__law_whole) f cdv A outer s0 H E) (fun cls d _ H => E cls d H) := takes_of rfl rfl rfl rfl
  have po : PassesOwn (model P w) (cxOf (L2.CX P w) P w K mg base N__law_whole "_law_whole" (defScope s__law_whole) f cdv A outer s0 H E).A (cxOf (L2.CX P w) P w K mg base N__law_whole "_law_whole" (defScope s__law_whole) f cdv A outer s0 H E).env (cxOf (L2.CX P w) P w K mg base N__law_whole "_law_whole" (defScope s__law_whole) f cdv A outer s0 H E).xe := passes_of rfl
  exact (sl_one (ss_ret (se_and (se_callB c_isi rfl T.n_isinstance (by decide +kernel) (sa_cons (se_v 0) (sa_cons (se_ty rfl T.n_int (by decide +kernel)) sa_nil))) (se_one (se_not (se_callB c_isi rfl T.n_isinstance (by decide +kernel) (sa_cons (se_v 0) (sa_cons (se_ty rfl T.n_bool (by decide +kernel)) sa_nil))))))))

abbrev s__law_is_side : Stmt := top 28
abbrev N__law_is_side : List Str := ["value", "host", "pulls", "k", "rule"]
theorem sc__law_is_side : FnScope N__law_is_side ["value", "host"] (defScope s__law_is_side) := ⟨rfl, rfl, rfl, by decide +kernel, rfl, by decide +kernel, by decide +kernel⟩
theorem k__law_is_side {P : Program} {w : World} {K : PySem.W.Frag} {mg : Str → Option Value} {base : Heap} {k : Nat} {f__law_whole : Fn} {f__law_whens : Fn} {f__law_acts : Fn} (T : Top K mg) (D : DefAt K mg "_law_is_side" s__law_is_side ["value", "host"]) (h__law_whole : GFn P w K mg base k "_law_whole" ["value"] f__law_whole) (h__law_whens : GFn P w K mg base k "_law_whens" [] f__law_whens) (h__law_acts : GFn P w K mg base k "_law_acts" ["host"] f__law_acts) :
    GFn P w K mg base (k + 1) "_law_is_side" ["value", "host"] (runB 5 (b__law_is_side f__law_whole f__law_whens f__law_acts)) := by
  refine g_def (N := N__law_is_side) D sc__law_is_side fun f cdv A outer s0 H E hr => ?_
  have nd := sc__law_is_side.nd
  have tk : Takes (cxOf (L2.CX P w) P w K mg base N__law_is_side "_law_is_side" (defScope s__law_is_side) f cdv A outer s0 H E) (fun cls d _ H => E cls d H) := takes_of rfl rfl rfl rfl
  have po : PassesOwn (model P w) (cxOf (L2.CX P w) P w K mg base N__law_is_side "_law_is_side" (defScope s__law_is_side) f cdv A outer s0 H E).A (cxOf (L2.CX P w) P w K mg base N__law_is_side "_law_is_side" (defScope s__law_is_side) f cdv A outer s0 H E).env (cxOf (L2.CX P w) P w K mg base N__law_is_side "_law_is_side" (defScope s__law_is_side) f cdv A outer s0 H E).xe := passes_of rfl
  exact (sl_cons (ss_if (sb_w (sw_or (sb_not (sb_e (se_callB c_isi rfl T.n_isinstance (by decide +kernel) (sa_cons (se_v 0) (sa_cons (se_ty rfl T.n_tuple (by decide +kernel)) sa_nil))))) (sw_or (sb_cmp (o_ne hr.units) (se_callB c_len rfl T.n_len (by decide +kernel) (sa_cons (se_v 0) sa_nil)) se_int (nomark _)) (sw_or (sb_not (sb_e (se_g h__law_whole hr rfl tk (sa_cons (se_ix o_ix (se_v 0) se_int) sa_nil) (nargs_cons nargs_nil)))) (sw_or1 (sb_not (sb_chain o_le o_le se_int (se_ix o_ix (se_v 0) se_int) se_int))))))) (sl_one (ss_ret se_bl)) sl_nil)
    (sl_cons (ss_if (sb_w (sw_or (sb_not (sb_e (se_g h__law_whole hr rfl tk (sa_cons (se_ix o_ix (se_v 0) se_int) sa_nil) (nargs_cons nargs_nil)))) (sw_or (sb_not (sb_chain o_le o_lt se_int (se_ix o_ix (se_v 0) se_int) (se_ix o_ix (se_v 0) se_int))) (sw_or (sb_not (sb_e (se_callB c_isi rfl T.n_isinstance (by decide +kernel) (sa_cons (se_ix o_ix (se_v 0) se_int) (sa_cons (se_ty rfl T.n_tuple (by decide +kernel)) sa_nil))))) (sw_or1 (sb_cmp o_gt (se_callB c_len rfl T.n_len (by decide +kernel) (sa_cons (se_ix o_ix (se_v 0) se_int) sa_nil)) se_int (nomark _))))))) (sl_one (ss_ret se_bl)) sl_nil)
    (sl_cons (ss_set (i := 2) nd rfl (by first | exact Or.inl rfl | exact Or.inr rfl) (se_lst sa_nil))
    (sl_cons (ss_for po rfl (si_range1 rfl T.n_range (sa_cons (se_callB c_len rfl T.n_len (by decide +kernel) (sa_cons (se_ix o_ix (se_v 0) se_int) sa_nil)) sa_nil)) (sg_name (i := 3) nd rfl (by first | exact Or.inl rfl | exact Or.inr rfl)) (sl_cons (ss_set (i := 4) nd rfl (by first | exact Or.inl rfl | exact Or.inr rfl) (se_ix o_ix (se_ix o_ix (se_v 0) se_int) (se_v 3)))
    (sl_cons (ss_if (sb_w (sw_or (sb_not (sb_e (se_callB c_isi rfl T.n_isinstance (by decide +kernel) (sa_cons (se_v 4) (sa_cons (se_ty rfl T.n_tuple (by decide +kernel)) sa_nil))))) (sw_or (sb_cmp (o_ne hr.units) (se_callB c_len rfl T.n_len (by decide +kernel) (sa_cons (se_v 4) sa_nil)) se_int (nomark _)) (sw_or (sb_not (sb_e (se_g h__law_whole hr rfl tk (sa_cons (se_ix o_ix (se_v 4) se_int) sa_nil) (nargs_cons nargs_nil)))) (sw_or1 (sb_not (sb_e (se_g h__law_whole hr rfl tk (sa_cons (se_ix o_ix (se_v 4) se_int) sa_nil) (nargs_cons nargs_nil))))))))) (sl_one (ss_ret se_bl)) sl_nil)
    (sl_cons (ss_if (sb_w (sw_or (sb_not (sb_chain o_le o_lt se_int (se_ix o_ix (se_v 4) se_int) (se_ix o_ix (se_v 0) se_int))) (sw_or (sb_not (sb_chain o_le o_lt se_int (se_ix o_ix (se_v 4) se_int) (se_ix o_ix (se_v 0) se_int))) (sw_or (sb_not (sb_e (se_callB c_isi rfl T.n_isinstance (by decide +kernel) (sa_cons (se_ix o_ix (se_v 4) se_int) (sa_cons (se_ty rfl T.n_str (by decide +kernel)) sa_nil))))) (sw_or1 (sb_not (sb_e (se_callB c_isi rfl T.n_isinstance (by decide +kernel) (sa_cons (se_ix o_ix (se_v 4) se_int) (sa_cons (se_ty rfl T.n_str (by decide +kernel)) sa_nil)))))))))) (sl_one (ss_ret se_bl)) sl_nil)
    (sl_cons (ss_if (sb_w (sw_or (sb_cmp (o_notin (hu65 hr)) (se_ix o_ix (se_v 4) se_int) (se_g0 h__law_whens hr rfl tk) rfl) (sw_or (sb_cmp (o_notin (hu65 hr)) (se_ix o_ix (se_v 4) se_int) (se_g h__law_acts hr rfl tk (sa_cons (se_v 1) sa_nil) (nargs_cons nargs_nil)) rfl) (sw_or1 (sb_cmp (o_in (hu65 hr)) (se_v 4) (se_slice (se_ix o_ix (se_v 0) se_int) sp_none (sp_some (se_v 3))) rfl))))) (sl_one (ss_ret se_bl)) sl_nil)
    (sl_cons (ss_if (sb_w (sw_and (sb_cmp (o_eq hr.units) (se_ix o_ix (se_v 4) se_int) se_str (nomark _)) (sw_and1 (sb_w (sw_or (sb_cmp (o_ne hr.units) (se_ix o_ix (se_v 4) se_int) se_str (nomark _)) (sw_or1 (sb_cmp (o_in (hu65 hr)) (se_ix o_ix (se_v 4) se_int) (se_v 2) rfl))))))) (sl_one (ss_ret se_bl)) sl_nil)
    (sl_one (ss_if (sb_cmp (o_eq hr.units) (se_ix o_ix (se_v 4) se_int) se_str (nomark _)) (sl_one (ss_expr (se_append (se_v 2) (sa_cons (se_ix o_ix (se_v 4) se_int) sa_nil)))) sl_nil))))))))
    (sl_one (ss_ret se_bl))))))

abbrev s__law_is_protocol : Stmt := top 29
abbrev N__law_is_protocol : List Str := ["value"]
theorem sc__law_is_protocol : FnScope N__law_is_protocol ["value"] (defScope s__law_is_protocol) := ⟨rfl, rfl, rfl, by decide +kernel, rfl, by decide +kernel, by decide +kernel⟩
theorem k__law_is_protocol {P : Program} {w : World} {K : PySem.W.Frag} {mg : Str → Option Value} {base : Heap} {k : Nat} {f__law_is_side : Fn} (T : Top K mg) (D : DefAt K mg "_law_is_protocol" s__law_is_protocol ["value"]) (h__law_is_side : GFn P w K mg base k "_law_is_side" ["value", "host"] f__law_is_side) :
    GFn P w K mg base (k + 1) "_law_is_protocol" ["value"] (runB 1 (b__law_is_protocol f__law_is_side)) := by
  refine g_def (N := N__law_is_protocol) D sc__law_is_protocol fun f cdv A outer s0 H E hr => ?_
  have nd := sc__law_is_protocol.nd
  have tk : Takes (cxOf (L2.CX P w) P w K mg base N__law_is_protocol "_law_is_protocol" (defScope s__law_is_protocol) f cdv A outer s0 H E) (fun cls d _ H => E cls d H) := takes_of rfl rfl rfl rfl
  have po : PassesOwn (model P w) (cxOf (L2.CX P w) P w K mg base N__law_is_protocol "_law_is_protocol" (defScope s__law_is_protocol) f cdv A outer s0 H E).A (cxOf (L2.CX P w) P w K mg base N__law_is_protocol "_law_is_protocol" (defScope s__law_is_protocol) f cdv A outer s0 H E).env (cxOf (L2.CX P w) P w K mg base N__law_is_protocol "_law_is_protocol" (defScope s__law_is_protocol) f cdv A outer s0 H E).xe := passes_of rfl
  exact (sl_cons (ss_if (sb_w (sw_or (sb_not (sb_e (se_callB c_isi rfl T.n_isinstance (by decide +kernel) (sa_cons (se_v 0) (sa_cons (se_ty rfl T.n_tuple (by decide +kernel)) sa_nil))))) (sw_or1 (sb_cmp (o_ne hr.units) (se_callB c_len rfl T.n_len (by decide +kernel) (sa_cons (se_v 0) sa_nil)) se_int (nomark _))))) (sl_one (ss_ret se_bl)) sl_nil)
    (sl_one (ss_ret (se_and (se_g h__law_is_side hr rfl tk (sa_cons (se_ix o_ix (se_v 0) se_int) (sa_cons se_bl sa_nil)) (nargs_cons (nargs_cons nargs_nil))) (se_one (se_g h__law_is_side hr rfl tk (sa_cons (se_ix o_ix (se_v 0) se_int) (sa_cons se_bl sa_nil)) (nargs_cons (nargs_cons nargs_nil))))))))

abbrev s_law : Stmt := top 37
abbrev N_law : List Str := ["script", "row", "spot", "protocol", "handed", "again", "changed", "plain", "many", "rules", "k", "value"]
theorem sc_law : FnScope N_law ["script"] (defScope s_law) := ⟨rfl, rfl, rfl, by decide +kernel, rfl, by decide +kernel, by decide +kernel⟩
theorem k_law {P : Program} {w : World} {K : PySem.W.Frag} {mg : Str → Option Value} {base : Heap} {k : Nat} {f__law_numbers : Fn} {f__law_protocol : Fn} {f__law_handed : Fn} {f__law_so : Fn} {f_is_protocol : Fn} {f__law_tupled : Fn} {f__law_spoilt_protocol : Fn} {f__law_is_protocol : Fn} {f__law_whens : Fn} (T : Top K mg) (D : DefAt K mg "law" s_law ["script"]) (h__law_numbers : GFn P w K mg base k "_law_numbers" ["script"] f__law_numbers) (h__law_protocol : GFn P w K mg base k "_law_protocol" ["row", "spot"] f__law_protocol) (h__law_handed : GFn P w K mg base k "_law_handed" ["row", "spot", "value"] f__law_handed) (h__law_so : GFn P w K mg base k "_law_so" ["found", "meant"] f__law_so) (h_is_protocol : GFn P w K mg base k "is_protocol" ["value"] f_is_protocol) (h__law_tupled : GFn P w K mg base k "_law_tupled" ["value"] f__law_tupled) (h__law_spoilt_protocol : GFn P w K mg base k "_law_spoilt_protocol" ["row", "spot", "value"] f__law_spoilt_protocol) (h__law_is_protocol : GFn P w K mg base k "_law_is_protocol" ["value"] f__law_is_protocol) (h__law_whens : GFn P w K mg base k "_law_whens" [] f__law_whens) (D_is_protocol : KwAt K mg "is_protocol" ["value"]) :
    GFn P w K mg base (k + 1) "law" ["script"] (runB 12 (b_law f__law_numbers f__law_protocol f__law_handed f__law_so f_is_protocol f__law_tupled f__law_spoilt_protocol f__law_is_protocol f__law_whens)) := by
  refine g_def (N := N_law) D sc_law fun f cdv A outer s0 H E hr => ?_
  have nd := sc_law.nd
  have tk : Takes (cxOf (L2.CX P w) P w K mg base N_law "law" (defScope s_law) f cdv A outer s0 H E) (fun cls d _ H => E cls d H) := takes_of rfl rfl rfl rfl
  have po : PassesOwn (model P w) (cxOf (L2.CX P w) P w K mg base N_law "law" (defScope s_law) f cdv A outer s0 H E).A (cxOf (L2.CX P w) P w K mg base N_law "law" (defScope s_law) f cdv A outer s0 H E).env (cxOf (L2.CX P w) P w K mg base N_law "law" (defScope s_law) f cdv A outer s0 H E).xe := passes_of rfl
  exact (sl_cons (ss_set (i := 1) nd rfl (by first | exact Or.inl rfl | exact Or.inr rfl) (se_g h__law_numbers hr rfl tk (sa_cons (se_v 0) sa_nil) (nargs_cons nargs_nil)))
    (sl_cons (ss_set (i := 2) nd rfl (by first | exact Or.inl rfl | exact Or.inr rfl) (se_lst (sa_cons se_int sa_nil)))
    (sl_cons (ss_set (i := 3) nd rfl (by first | exact Or.inl rfl | exact Or.inr rfl) (se_g h__law_protocol hr rfl tk (sa_cons (se_v 1) (sa_cons (se_v 2) sa_nil)) (nargs_cons (nargs_cons nargs_nil))))
    (sl_cons (ss_set (i := 4) nd rfl (by first | exact Or.inl rfl | exact Or.inr rfl) (se_g h__law_handed hr rfl tk (sa_cons (se_v 1) (sa_cons (se_v 2) (sa_cons (se_v 3) sa_nil))) (nargs_cons (nargs_cons (nargs_cons nargs_nil)))))
    (sl_cons (ss_if (sb_w (sw_or (sb_not (sb_e (se_g h__law_so hr rfl tk (sa_cons (se_kw h_is_protocol D_is_protocol hr rfl tk (sk_cons (se_v 4) sk_nil) (nargs_cons nargs_nil)) (sa_cons se_bl sa_nil)) (nargs_cons (nargs_cons nargs_nil))))) (sw_or1 (sb_not (sb_e (se_g h__law_so hr rfl tk (sa_cons (se_g h__law_tupled hr rfl tk (sa_cons (se_v 4) sa_nil) (nargs_cons nargs_nil)) (sa_cons (se_v 3) sa_nil)) (nargs_cons (nargs_cons nargs_nil)))))))) (sl_one (ss_ret se_bl)) sl_nil)
    (sl_cons (ss_for po rfl (si_range1 rfl T.n_range (sa_cons se_int sa_nil)) (sg_name (i := 5) nd rfl (by first | exact Or.inl rfl | exact Or.inr rfl)) (sl_cons (ss_set (i := 6) nd rfl (by first | exact Or.inl rfl | exact Or.inr rfl) (se_g h__law_spoilt_protocol hr rfl tk (sa_cons (se_v 1) (sa_cons (se_v 2) (sa_cons (se_v 3) sa_nil))) (nargs_cons (nargs_cons (nargs_cons nargs_nil)))))
    (sl_one (ss_if (sb_not (sb_e (se_g h__law_so hr rfl tk (sa_cons (se_g h_is_protocol hr rfl tk (sa_cons (se_g h__law_handed hr rfl tk (sa_cons (se_v 1) (sa_cons (se_v 2) (sa_cons (se_v 6) sa_nil))) (nargs_cons (nargs_cons (nargs_cons nargs_nil)))) sa_nil) (nargs_cons nargs_nil)) (sa_cons (se_g h__law_is_protocol hr rfl tk (sa_cons (se_v 6) sa_nil) (nargs_cons nargs_nil)) sa_nil)) (nargs_cons (nargs_cons nargs_nil))))) (sl_one (ss_ret se_bl)) sl_nil))))
    (sl_cons (ss_set (i := 7) nd rfl (by first | exact Or.inl rfl | exact Or.inr rfl) (se_tup (sa_cons se_int (sa_cons se_int (sa_cons (se_tup sa_nil) sa_nil)))))
    (sl_cons (ss_for po rfl (si_seq (se_tup (sa_cons se_int (sa_cons se_int (sa_cons se_int sa_nil))))) (sg_name (i := 8) nd rfl (by first | exact Or.inl rfl | exact Or.inr rfl)) (sl_cons (ss_set (i := 9) nd rfl (by first | exact Or.inl rfl | exact Or.inr rfl) (se_callTy c_tuple rfl T.n_tuple (by decide +kernel) (sa_cons (se_lc (own := [("k", 10)]) rfl nd (si_range1 rfl T.n_range (sa_cons (se_v 8) sa_nil)) (blkOk_by (own := [("k", 10)]) (N := N_law) (sc := defScope s_law) (by decide +kernel)) (fun _ _ _ _ _ => (so_name (i := 10) nd rfl (by first | exact Or.inl rfl | exact Or.inr rfl) (by decide))) (fun _ _ _ _ _ => sts_nil) (fun _ _ _ _ _ => (se_tup (sa_cons (se_bin o_fdiv (se_v 10) se_int) (sa_cons (se_ix o_ix (se_g0 h__law_whens hr rfl takes_WX0) (se_bin o_mod (se_callTy c_int rfl T.n_int (by decide +kernel) (sa_cons (se_v 10) sa_nil)) se_int)) (sa_cons se_int (sa_cons se_str sa_nil))))))) sa_nil)))
    (sl_one (ss_for po rfl (si_seq (se_tup (sa_cons (se_tup (sa_cons (se_tup (sa_cons se_int (sa_cons se_int (sa_cons (se_v 9) sa_nil)))) (sa_cons (se_v 7) sa_nil))) (sa_cons (se_tup (sa_cons (se_v 7) (sa_cons (se_tup (sa_cons se_int (sa_cons se_int (sa_cons (se_v 9) sa_nil)))) sa_nil))) (sa_cons (se_tup (sa_cons (se_tup (sa_cons se_int (sa_cons se_int (sa_cons (se_v 9) sa_nil)))) (sa_cons (se_tup (sa_cons se_int (sa_cons se_int (sa_cons (se_tup sa_nil) sa_nil)))) sa_nil))) sa_nil))))) (sg_name (i := 11) nd rfl (by first | exact Or.inl rfl | exact Or.inr rfl)) (sl_one (ss_if (sb_not (sb_e (se_g h__law_so hr rfl tk (sa_cons (se_g h_is_protocol hr rfl tk (sa_cons (se_g h__law_handed hr rfl tk (sa_cons (se_v 1) (sa_cons (se_v 2) (sa_cons (se_v 11) sa_nil))) (nargs_cons (nargs_cons (nargs_cons nargs_nil)))) sa_nil) (nargs_cons nargs_nil)) (sa_cons (se_g h__law_is_protocol hr rfl tk (sa_cons (se_v 11) sa_nil) (nargs_cons nargs_nil)) sa_nil)) (nargs_cons (nargs_cons nargs_nil))))) (sl_one (ss_ret se_bl)) sl_nil))))))
    (sl_cons (ss_for po rfl (si_seq (se_tup (sa_cons (se_tup (sa_cons (se_tup (sa_cons se_int (sa_cons se_str (sa_cons se_int (sa_cons se_str sa_nil))))) (sa_cons (se_tup (sa_cons se_int (sa_cons se_str (sa_cons se_int (sa_cons se_str sa_nil))))) sa_nil))) (sa_cons (se_tup (sa_cons (se_tup (sa_cons se_int (sa_cons se_str (sa_cons se_int (sa_cons se_str sa_nil))))) sa_nil)) (sa_cons (se_tup (sa_cons (se_tup (sa_cons se_int (sa_cons se_str (sa_cons se_int (sa_cons se_str sa_nil))))) sa_nil)) (sa_cons (se_tup (sa_cons (se_tup (sa_cons se_int (sa_cons se_str (sa_cons se_int (sa_cons se_str sa_nil))))) sa_nil)) sa_nil)))))) (sg_name (i := 9) nd rfl (by first | exact Or.inl rfl | exact Or.inr rfl)) (sl_one (ss_for po rfl (si_seq (se_tup (sa_cons (se_tup (sa_cons (se_tup (sa_cons se_int (sa_cons se_int (sa_cons (se_v 9) sa_nil)))) (sa_cons (se_v 7) sa_nil))) (sa_cons (se_tup (sa_cons (se_v 7) (sa_cons (se_tup (sa_cons se_int (sa_cons se_int (sa_cons (se_v 9) sa_nil)))) sa_nil))) sa_nil)))) (sg_name (i := 11) nd rfl (by first | exact Or.inl rfl | exact Or.inr rfl)) (sl_one (ss_if (sb_not (sb_e (se_g h__law_so hr rfl tk (sa_cons (se_g h_is_protocol hr rfl tk (sa_cons (se_v 11) sa_nil) (nargs_cons nargs_nil)) (sa_cons (se_g h__law_is_protocol hr rfl tk (sa_cons (se_v 11) sa_nil) (nargs_cons nargs_nil)) sa_nil)) (nargs_cons (nargs_cons nargs_nil))))) (sl_one (ss_ret se_bl)) sl_nil)))))
    (sl_one (ss_ret se_bl)))))))))))
end Sh
set_option linter.all false
set_option maxRecDepth 100000
set_option
        maxHeartbeats 4000000
/-! AS: the whole text does the law's computation. -/
namespace Sh
open PySem PySem.Spec
        PyProof.Rows L2
abbrev s_are_different : Stmt := top 11
abbrev N_are_different : List Str := ["values"]
theorem sc_are_different : FnScope N_are_different ["values"] (defScope s_are_different) := ⟨rfl, rfl, rfl, by decide +kernel, rfl, by decide +kernel, by decide +kernel⟩
theorem k_are_different {P : Program} {w : World} {K : PySem.W.Frag} {mg : Str → Option Value} {base : Heap} {k : Nat} (T : Top K mg) (n_set : mg "set" = none) (D : DefAt K mg "are_different" s_are_different ["values"]) :
    GFn P w K mg base (k + 1) "are_different" ["values"] (runB 1 b_are_different) := by
  refine g_def (N := N_are_different) D sc_are_different fun f cdv A outer s0 H E hr => ?_
  have nd := sc_are_different.nd
  exact (sl_one (ss_ret (se_cmp (o_eq hr.units) (se_lenset rfl hr.units rfl T.n_len rfl n_set (se_v 0)) (se_callB c_len rfl T.n_len (by decide +kernel) (sa_cons (se_v 0) sa_nil)) (nomark _))))
structure Defs (K : PySem.W.Frag) (mg : Str → Option Value) : Prop where
  d__law_numbers : DefAt K mg "_law_numbers" (top 16) ["script"]
  d__law_draw : DefAt K mg "_law_draw" (top 17) ["row", "at", "limit"]
  d__law_take : DefAt K mg "_law_take" (top 18) ["row", "spot", "limit"]
  d__law_pick : DefAt K mg "_law_pick" (top 24) ["row", "spot", "things"]
  d__law_shuffled : DefAt K mg "_law_shuffled" (top 25) ["row", "spot", "many"]
  d__law_bases : DefAt K mg "_law_bases" (top 30) []
  d__law_renamed : DefAt K mg "_law_renamed" (top 33) ["row", "spot", "side", "frames"]
  d__law_fit_rules : DefAt K mg "_law_fit_rules" (top 32) ["rules"]
  d__law_whens : DefAt K mg "_law_whens" (top 26) []
  d__law_acts : DefAt K mg "_law_acts" (top 27) ["host"]
  d__law_drawn_rule : DefAt K mg "_law_drawn_rule" (top 31) ["row", "spot", "states", "host"]
  d__law_varied : DefAt K mg "_law_varied" (top 34) ["row", "spot", "side", "host"]
  d__law_protocol : DefAt K mg "_law_protocol" (top 35) ["row", "spot"]
  d__law_either : DefAt K mg "_law_either" (top 22) ["row", "spot", "value"]
  d__law_listed : DefAt K mg "_law_listed" (top 20) ["value"]
  d__law_handed : DefAt K mg "_law_handed" (top 23) ["row", "spot", "value"]
  d__law_spoilt_protocol : DefAt K mg "_law_spoilt_protocol" (top 36) ["row", "spot", "value"]
  d__law_so : DefAt K mg "_law_so" (top 15) ["found", "meant"]
  d_is_sequence : DefAt K mg "is_sequence" (top 3) ["value"]
  d_is_row : DefAt K mg "is_row" (top 4) ["value", "many"]
  d_are_different : DefAt K mg "are_different" (top 11) ["values"]
  d_is_integer : DefAt K mg "is_integer" (top 1) ["value"]
  d_is_integer_from : DefAt K mg "is_integer_from" (top 2) ["value", "low", "high"]
  d_is_rule : DefAt K mg "is_rule" (top 10) ["value", "states"]
  d_is_side : DefAt K mg "is_side" (top 12) ["value", "barred"]
  d_is_protocol : DefAt K mg "is_protocol" (top 13) ["value"]
  d__law_tupled : DefAt K mg "_law_tupled" (top 21) ["value"]
  d__law_whole : DefAt K mg "_law_whole" (top 19) ["value"]
  d__law_is_side : DefAt K mg "_law_is_side" (top 28) ["value", "host"]
  d__law_is_protocol : DefAt K mg "_law_is_protocol" (top 29) ["value"]
  d_law : DefAt K mg "law" (top 37) ["script"]

section
variable {P : Program} {w : World} {K : PySem.W.Frag}
        {mg : Str → Option Value} {base : Heap}
theorem g_listed (T : Top K mg) (D : Defs K mg) : ∀ d, GFn P w K mg base d "_law_listed" ["value"] (F_listed d)
  | 0 => GFn.none D.d__law_listed
  | d + 1 => k__law_listed T D.d__law_listed (g_listed T D d)
theorem g_tupled (T : Top K mg) (D : Defs K mg) : ∀ d, GFn P w K mg base d "_law_tupled" ["value"] (F_tupled d)
  | 0 => GFn.none D.d__law_tupled
  | d + 1 => k__law_tupled T D.d__law_tupled (g_tupled T D d)
theorem g_so (T : Top K mg) (D : Defs K mg) : ∀ d, GFn P w K mg base d "_law_so" ["found", "meant"] (F_so d)
  | 0 => GFn.none D.d__law_so
  | d + 1 => k__law_so T D.d__law_so (g_so T D d)
theorem g_take (T : Top K mg) (D : Defs K mg) : GFn P w K mg base 2 "_law_take" ["row", "spot", "limit"] F_take := k__law_take T D.d__law_take (k__law_draw T D.d__law_draw)
theorem g_pick (T : Top K mg) (D : Defs K mg) : GFn P w K mg base 3 "_law_pick" ["row", "spot", "things"] F_pick := k__law_pick T D.d__law_pick (g_take T D)
theorem g_whens (T : Top K mg) (D : Defs K mg) : GFn P w K mg base 1 "_law_whens" [] F_whens := k__law_whens T D.d__law_whens
theorem g_acts (T : Top K mg) (D : Defs K mg) : GFn P w K mg base 1 "_law_acts" ["host"] F_acts := k__law_acts T D.d__law_acts
theorem g_shuffled (T : Top K mg) (D : Defs K mg) : GFn P w K mg base 3 "_law_shuffled" ["row", "spot", "many"] F_shuffled := k__law_shuffled T D.d__law_shuffled (g_take T D)
theorem g_either (T : Top K mg) (D : Defs K mg) : ∀ d, GFn P w K mg base (d + 2) "_law_either" ["row", "spot", "value"] (F_either d)
  | 0 => GFn.none D.d__law_either
  | d + 1 => k__law_either T D.d__law_either (g_either T D d) ((g_take T D).mono (by omega))
theorem g_spoilt (T : Top K mg) (D : Defs K mg) : ∀ d, GFn P w K mg base (d + 3) "_law_spoilt_protocol" ["row", "spot", "value"] (F_spoilt d)
  | 0 => GFn.none D.d__law_spoilt_protocol
  | d + 1 => k__law_spoilt_protocol T D.d__law_spoilt_protocol ((g_take T D).mono (by omega)) (g_spoilt T D d) ((g_pick T D).mono (by omega)) ((g_whens T D).mono (by omega))
theorem g_handed (T : Top K mg) (D : Defs K mg) : GFn P w K mg base 10 "_law_handed" ["row", "spot", "value"] (F_handed 7) :=
  k__law_handed T D.d__law_handed ((g_take T D).mono (by omega)) (g_either T D 7) ((g_listed T D 7).mono (by omega))
theorem g_drawn_rule (T : Top K mg) (D : Defs K mg) : GFn P w K mg base 4 "_law_drawn_rule" ["row", "spot", "states", "host"] F_drawn_rule :=
  k__law_drawn_rule T D.d__law_drawn_rule (g_pick T D) ((g_whens T D).mono (by omega)) ((g_acts T D).mono (by omega)) ((g_take T D).mono (by omega))
theorem g_fit (T : Top K mg) (D : Defs K mg) : GFn P w K mg base 1 "_law_fit_rules" ["rules"] F_fit_rules := k__law_fit_rules T D.d__law_fit_rules
theorem g_renamed (T : Top K mg) (D : Defs K mg) : GFn P w K mg base 4 "_law_renamed" ["row", "spot", "side", "frames"] F_renamed := k__law_renamed T D.d__law_renamed (g_shuffled T D)
theorem g_varied (T : Top K mg) (D : Defs K mg) : GFn P w K mg base 5 "_law_varied" ["row", "spot", "side", "host"] F_varied :=
  k__law_varied T D.d__law_varied ((g_take T D).mono (by omega)) (g_drawn_rule T D) ((g_pick T D).mono (by omega)) ((g_acts T D).mono (by omega)) ((g_whens T D).mono (by omega)) ((g_fit T D).mono (by omega))
theorem g_protocol (T : Top K mg) (D : Defs K mg) : GFn P w K mg base 6 "_law_protocol" ["row", "spot"] F_protocol :=
  k__law_protocol T D.d__law_protocol ((g_take T D).mono (by omega)) ((g_drawn_rule T D).mono (by omega)) ((g_fit T D).mono (by omega)) ((g_pick T D).mono (by omega)) ((k__law_bases (k := 0) T D.d__law_bases).mono (by omega)) ((g_shuffled T D).mono (by omega)) ((g_renamed T D).mono (by omega)) (g_varied T D)
theorem g_seq (T : Top K mg) (D : Defs K mg) : GFn P w K mg base 1 "is_sequence" ["value"] F_is_sequence := k_is_sequence T D.d_is_sequence
theorem g_row (T : Top K mg) (D : Defs K mg) : GFn P w K mg base 2 "is_row" ["value", "many"] F_is_row := k_is_row T D.d_is_row (g_seq T D)
theorem g_iif (T : Top K mg) (D : Defs K mg) : GFn P w K mg base 2 "is_integer_from" ["value", "low", "high"] F_iif := k_is_integer_from T D.d_is_integer_from (k_is_integer (k := 0) T D.d_is_integer)
theorem g_rule (T : Top K mg) (D : Defs K mg) : GFn P w K mg base 3 "is_rule" ["value", "states"] F_is_rule := k_is_rule T D.d_is_rule (g_row T D) (g_iif T D)
theorem g_side (T : Top K mg) (n_set : mg "set" = none) (D : Defs K mg) : GFn P w K mg base 4 "is_side" ["value", "barred"] F_is_side :=
  k_is_side T D.d_is_side ((g_row T D).mono (by omega)) ((g_iif T D).mono (by omega)) ((g_seq T D).mono (by omega)) (g_rule T D) ((k_are_different (k := 0) T n_set D.d_are_different).mono (by omega))
theorem g_prot (T : Top K mg) (n_set : mg "set" = none) (D : Defs K mg) : GFn P w K mg base 5 "is_protocol" ["value"] F_is_protocol := k_is_protocol T D.d_is_protocol ((g_row T D).mono (by omega)) (g_side T n_set D)
theorem g_lis (T : Top K mg) (D : Defs K mg) : GFn P w K mg base 2 "_law_is_side" ["value", "host"] F_lis := k__law_is_side T D.d__law_is_side (k__law_whole (k := 0) T D.d__law_whole) (g_whens T D) (g_acts T D)
theorem g_lip (T : Top K mg) (D : Defs K mg) : GFn P w K mg base 3 "_law_is_protocol" ["value"] F_lip := k__law_is_protocol T D.d__law_is_protocol (g_lis T D)
theorem all_ok (T : Top K mg) (n_set : mg "set" = none) (D : Defs K mg) : GFn P w K mg base 12 "law" ["script"] F_law :=
  k_law T D.d_law ((k__law_numbers (k := 0) T D.d__law_numbers).mono (by omega)) ((g_protocol T D).mono (by omega)) ((g_handed T D).mono (by omega)) ((g_so T D 7).mono (by omega)) ((g_prot T n_set D).mono (by omega)) ((g_tupled T D 7).mono (by omega)) ((g_spoilt T D 5).mono (by omega)) ((g_lip T D).mono (by omega)) ((g_whens T D).mono (by omega)) (at_kw (h := base) D.d_is_protocol fun _ _ _ _ _ _ us hl => match us, hl with | [_], _ => rfl)
end
end Sh
set_option linter.all false
set_option maxRecDepth 100000
namespace Sh
open PySem PySem.Spec
        PyProof.Rows L2
end Sh
open PySem PySem.W
        PyProof.Rows
set_option
        maxRecDepth 100000 in
set_option maxHeartbeats 0 in
theorem PySem.Challenge.cw_pullsafe_k12_protocols_told_apart_holds : PySem.Challenge.rw_pullsafe_k12_protocols_told_apart.Holds := by
  w_on; o_law; k_head; (case
          hw => w_witness2)
  k_fill
  refine Sh.law_walk (l := PySem.Challenge.rw_pullsafe_k12_protocols_told_apart) (k := 12) (F := Sh.F_law) rfl rfl ⟨rfl, by decide, by decide⟩ (fun w h Y => PySem.W.kIn_of Y) rfl ?F (fun ns _ => Sh.law_true ns)
  case F =>
    intro w mg h KX G
    have n_range : mg "range" = none := by
      refine' Sh.at_none KX G ?e
      (case e => k_is)
    have n_int : mg "int" = none := by
      refine' Sh.at_none KX G ?e
      (case e => k_is)
    have n_len : mg "len" = none := by
      refine' Sh.at_none KX G ?e
      (case e => k_is)
    have n_list : mg "list" = none := by
      refine' Sh.at_none KX G ?e
      (case e => k_is)
    have n_tuple : mg "tuple" = none := by
      refine' Sh.at_none KX G ?e
      (case e => k_is)
    have n_str : mg "str" = none := by
      refine' Sh.at_none KX G ?e
      (case e => k_is)
    have n_isinstance : mg "isinstance" = none := by
      refine' Sh.at_none KX G ?e
      (case e => k_is)
    have n_bool : mg "bool" = none := by
      refine' Sh.at_none KX G ?e
      (case e => k_is)
    have c_WHENS : Sh.GVal (L2.KOf KX) mg "WHENS" Sh.v_WHENS := by
      unfold L2.KOf
      refine' Sh.at_strs (zs := ["tick", "pull", "got 0", "got 1", "got 2", "got 3"]) KX G ?e ?l ?z (by decide)
      (case e => k_is); (case l => k_is); (case z => rfl)
    have c_ACTS : Sh.GVal (L2.KOf KX) mg "ACTS" Sh.v_ACTS := by
      unfold L2.KOf
      refine' Sh.at_strs (zs := ["none", "send 0", "send 1", "send 2", "send 3", "take", "tell"]) KX G ?e ?l ?z (by decide)
      (case e => k_is); (case l => k_is); (case z => rfl)
    have c_MOST_STATES : Sh.GVal (L2.KOf KX) mg "MOST_STATES" Sh.v_MOST_STATES := by
      unfold L2.KOf
      refine' Sh.at_int KX G ?e
      (case e => k_is)
    have c_MOST_RULES : Sh.GVal (L2.KOf KX) mg "MOST_RULES" Sh.v_MOST_RULES := by
      unfold L2.KOf
      refine' Sh.at_int KX G ?e
      (case e => k_is)
    have n_set : mg "set" = none := by
      refine' Sh.at_none KX G ?e
      (case e => k_is)
    have n_all : mg "all" = none := by
      refine' Sh.at_none KX G ?e
      (case e => k_is)
    have d__law_numbers : Sh.DefAt (L2.KOf KX) mg "_law_numbers" (Sh.top 16) ["script"] := by
      unfold L2.KOf
      refine' Sh.at_def (st := Sh.top 16) KX G ?a ?l ?c ?k ?b
      (case a => k_is); (case l => k_is); (case c => k_is); (case k => k_is); (case b => exact fun _ _ _ _ _ _ us hl => match us, hl with | [_], _ => rfl)
    have d__law_draw : Sh.DefAt (L2.KOf KX) mg "_law_draw" (Sh.top 17) ["row", "at", "limit"] := by
      unfold L2.KOf
      refine' Sh.at_def (st := Sh.top 17) KX G ?a ?l ?c ?k ?b
      (case a => k_is); (case l => k_is); (case c => k_is); (case k => k_is); (case b => exact fun _ _ _ _ _ _ us hl => match us, hl with | [_, _, _], _ => rfl)
    have d__law_take : Sh.DefAt (L2.KOf KX) mg "_law_take" (Sh.top 18) ["row", "spot", "limit"] := by
      unfold L2.KOf
      refine' Sh.at_def (st := Sh.top 18) KX G ?a ?l ?c ?k ?b
      (case a => k_is); (case l => k_is); (case c => k_is); (case k => k_is); (case b => exact fun _ _ _ _ _ _ us hl => match us, hl with | [_, _, _], _ => rfl)
    have d__law_pick : Sh.DefAt (L2.KOf KX) mg "_law_pick" (Sh.top 24) ["row", "spot", "things"] := by
      unfold L2.KOf
      refine' Sh.at_def (st := Sh.top 24) KX G ?a ?l ?c ?k ?b
      (case a => k_is); (case l => k_is); (case c => k_is); (case k => k_is); (case b => exact fun _ _ _ _ _ _ us hl => match us, hl with | [_, _, _], _ => rfl)
    have d__law_shuffled : Sh.DefAt (L2.KOf KX) mg "_law_shuffled" (Sh.top 25) ["row", "spot", "many"] := by
      unfold L2.KOf
      refine' Sh.at_def (st := Sh.top 25) KX G ?a ?l ?c ?k ?b
      (case a => k_is); (case l => k_is); (case c => k_is); (case k => k_is); (case b => exact fun _ _ _ _ _ _ us hl => match us, hl with | [_, _, _], _ => rfl)
    have d__law_bases : Sh.DefAt (L2.KOf KX) mg "_law_bases" (Sh.top 30) [] := by
      unfold L2.KOf
      refine' Sh.at_def (st := Sh.top 30) KX G ?a ?l ?c ?k ?b
      (case a => k_is); (case l => k_is); (case c => k_is); (case k => k_is); (case b => exact fun _ _ _ _ _ _ us hl => match us, hl with | [], _ => rfl)
    have d__law_renamed : Sh.DefAt (L2.KOf KX) mg "_law_renamed" (Sh.top 33) ["row", "spot", "side", "frames"] := by
      unfold L2.KOf
      refine' Sh.at_def (st := Sh.top 33) KX G ?a ?l ?c ?k ?b
      (case a => k_is); (case l => k_is); (case c => k_is); (case k => k_is); (case b => exact fun _ _ _ _ _ _ us hl => match us, hl with | [_, _, _, _], _ => rfl)
    have d__law_fit_rules : Sh.DefAt (L2.KOf KX) mg "_law_fit_rules" (Sh.top 32) ["rules"] := by
      unfold L2.KOf
      refine' Sh.at_def (st := Sh.top 32) KX G ?a ?l ?c ?k ?b
      (case a => k_is); (case l => k_is); (case c => k_is); (case k => k_is); (case b => exact fun _ _ _ _ _ _ us hl => match us, hl with | [_], _ => rfl)
    have d__law_whens : Sh.DefAt (L2.KOf KX) mg "_law_whens" (Sh.top 26) [] := by
      unfold L2.KOf
      refine' Sh.at_def (st := Sh.top 26) KX G ?a ?l ?c ?k ?b
      (case a => k_is); (case l => k_is); (case c => k_is); (case k => k_is); (case b => exact fun _ _ _ _ _ _ us hl => match us, hl with | [], _ => rfl)
    have d__law_acts : Sh.DefAt (L2.KOf KX) mg "_law_acts" (Sh.top 27) ["host"] := by
      unfold L2.KOf
      refine' Sh.at_def (st := Sh.top 27) KX G ?a ?l ?c ?k ?b
      (case a => k_is); (case l => k_is); (case c => k_is); (case k => k_is); (case b => exact fun _ _ _ _ _ _ us hl => match us, hl with | [_], _ => rfl)
    have d__law_drawn_rule : Sh.DefAt (L2.KOf KX) mg "_law_drawn_rule" (Sh.top 31) ["row", "spot", "states", "host"] := by
      unfold L2.KOf
      refine' Sh.at_def (st := Sh.top 31) KX G ?a ?l ?c ?k ?b
      (case a => k_is); (case l => k_is); (case c => k_is); (case k => k_is); (case b => exact fun _ _ _ _ _ _ us hl => match us, hl with | [_, _, _, _], _ => rfl)
    have d__law_varied : Sh.DefAt (L2.KOf KX) mg "_law_varied" (Sh.top 34) ["row", "spot", "side", "host"] := by
      unfold L2.KOf
      refine' Sh.at_def (st := Sh.top 34) KX G ?a ?l ?c ?k ?b
      (case a => k_is); (case l => k_is); (case c => k_is); (case k => k_is); (case b => exact fun _ _ _ _ _ _ us hl => match us, hl with | [_, _, _, _], _ => rfl)
    have d__law_protocol : Sh.DefAt (L2.KOf KX) mg "_law_protocol" (Sh.top 35) ["row", "spot"] := by
      unfold L2.KOf
      refine' Sh.at_def (st := Sh.top 35) KX G ?a ?l ?c ?k ?b
      (case a => k_is); (case l => k_is); (case c => k_is); (case k => k_is); (case b => exact fun _ _ _ _ _ _ us hl => match us, hl with | [_, _], _ => rfl)
    have d__law_either : Sh.DefAt (L2.KOf KX) mg "_law_either" (Sh.top 22) ["row", "spot", "value"] := by
      unfold L2.KOf
      refine' Sh.at_def (st := Sh.top 22) KX G ?a ?l ?c ?k ?b
      (case a => k_is); (case l => k_is); (case c => k_is); (case k => k_is); (case b => exact fun _ _ _ _ _ _ us hl => match us, hl with | [_, _, _], _ => rfl)
    have d__law_listed : Sh.DefAt (L2.KOf KX) mg "_law_listed" (Sh.top 20) ["value"] := by
      unfold L2.KOf
      refine' Sh.at_def (st := Sh.top 20) KX G ?a ?l ?c ?k ?b
      (case a => k_is); (case l => k_is); (case c => k_is); (case k => k_is); (case b => exact fun _ _ _ _ _ _ us hl => match us, hl with | [_], _ => rfl)
    have d__law_handed : Sh.DefAt (L2.KOf KX) mg "_law_handed" (Sh.top 23) ["row", "spot", "value"] := by
      unfold L2.KOf
      refine' Sh.at_def (st := Sh.top 23) KX G ?a ?l ?c ?k ?b
      (case a => k_is); (case l => k_is); (case c => k_is); (case k => k_is); (case b => exact fun _ _ _ _ _ _ us hl => match us, hl with | [_, _, _], _ => rfl)
    have d__law_spoilt_protocol : Sh.DefAt (L2.KOf KX) mg "_law_spoilt_protocol" (Sh.top 36) ["row", "spot", "value"] := by
      unfold L2.KOf
      refine' Sh.at_def (st := Sh.top 36) KX G ?a ?l ?c ?k ?b
      (case a => k_is); (case l => k_is); (case c => k_is); (case k => k_is); (case b => exact fun _ _ _ _ _ _ us hl => match us, hl with | [_, _, _], _ => rfl)
    have d__law_so : Sh.DefAt (L2.KOf KX) mg "_law_so" (Sh.top 15) ["found", "meant"] := by
      unfold L2.KOf
      refine' Sh.at_def (st := Sh.top 15) KX G ?a ?l ?c ?k ?b
      (case a => k_is); (case l => k_is); (case c => k_is); (case k => k_is); (case b => exact fun _ _ _ _ _ _ us hl => match us, hl with | [_, _], _ => rfl)
    have d_is_sequence : Sh.DefAt (L2.KOf KX) mg "is_sequence" (Sh.top 3) ["value"] := by
      unfold L2.KOf
      refine' Sh.at_def (st := Sh.top 3) KX G ?a ?l ?c ?k ?b
      (case a => k_is); (case l => k_is); (case c => k_is); (case k => k_is); (case b => exact fun _ _ _ _ _ _ us hl => match us, hl with | [_], _ => rfl)
    have d_is_row : Sh.DefAt (L2.KOf KX) mg "is_row" (Sh.top 4) ["value", "many"] := by
      unfold L2.KOf
      refine' Sh.at_def (st := Sh.top 4) KX G ?a ?l ?c ?k ?b
      (case a => k_is); (case l => k_is); (case c => k_is); (case k => k_is); (case b => exact fun _ _ _ _ _ _ us hl => match us, hl with | [_, _], _ => rfl)
    have d_are_different : Sh.DefAt (L2.KOf KX) mg "are_different" (Sh.top 11) ["values"] := by
      unfold L2.KOf
      refine' Sh.at_def (st := Sh.top 11) KX G ?a ?l ?c ?k ?b
      (case a => k_is); (case l => k_is); (case c => k_is); (case k => k_is); (case b => exact fun _ _ _ _ _ _ us hl => match us, hl with | [_], _ => rfl)
    have d_is_integer : Sh.DefAt (L2.KOf KX) mg "is_integer" (Sh.top 1) ["value"] := by
      unfold L2.KOf
      refine' Sh.at_def (st := Sh.top 1) KX G ?a ?l ?c ?k ?b
      (case a => k_is); (case l => k_is); (case c => k_is); (case k => k_is); (case b => exact fun _ _ _ _ _ _ us hl => match us, hl with | [_], _ => rfl)
    have d_is_integer_from : Sh.DefAt (L2.KOf KX) mg "is_integer_from" (Sh.top 2) ["value", "low", "high"] := by
      unfold L2.KOf
      refine' Sh.at_def (st := Sh.top 2) KX G ?a ?l ?c ?k ?b
      (case a => k_is); (case l => k_is); (case c => k_is); (case k => k_is); (case b => exact fun _ _ _ _ _ _ us hl => match us, hl with | [_, _, _], _ => rfl)
    have d_is_rule : Sh.DefAt (L2.KOf KX) mg "is_rule" (Sh.top 10) ["value", "states"] := by
      unfold L2.KOf
      refine' Sh.at_def (st := Sh.top 10) KX G ?a ?l ?c ?k ?b
      (case a => k_is); (case l => k_is); (case c => k_is); (case k => k_is); (case b => exact fun _ _ _ _ _ _ us hl => match us, hl with | [_, _], _ => rfl)
    have d_is_side : Sh.DefAt (L2.KOf KX) mg "is_side" (Sh.top 12) ["value", "barred"] := by
      unfold L2.KOf
      refine' Sh.at_def (st := Sh.top 12) KX G ?a ?l ?c ?k ?b
      (case a => k_is); (case l => k_is); (case c => k_is); (case k => k_is); (case b => exact fun _ _ _ _ _ _ us hl => match us, hl with | [_, _], _ => rfl)
    have d_is_protocol : Sh.DefAt (L2.KOf KX) mg "is_protocol" (Sh.top 13) ["value"] := by
      unfold L2.KOf
      refine' Sh.at_def (st := Sh.top 13) KX G ?a ?l ?c ?k ?b
      (case a => k_is); (case l => k_is); (case c => k_is); (case k => k_is); (case b => exact fun _ _ _ _ _ _ us hl => match us, hl with | [_], _ => rfl)
    have d__law_tupled : Sh.DefAt (L2.KOf KX) mg "_law_tupled" (Sh.top 21) ["value"] := by
      unfold L2.KOf
      refine' Sh.at_def (st := Sh.top 21) KX G ?a ?l ?c ?k ?b
      (case a => k_is); (case l => k_is); (case c => k_is); (case k => k_is); (case b => exact fun _ _ _ _ _ _ us hl => match us, hl with | [_], _ => rfl)
    have d__law_whole : Sh.DefAt (L2.KOf KX) mg "_law_whole" (Sh.top 19) ["value"] := by
      unfold L2.KOf
      refine' Sh.at_def (st := Sh.top 19) KX G ?a ?l ?c ?k ?b
      (case a => k_is); (case l => k_is); (case c => k_is); (case k => k_is); (case b => exact fun _ _ _ _ _ _ us hl => match us, hl with | [_], _ => rfl)
    have d__law_is_side : Sh.DefAt (L2.KOf KX) mg "_law_is_side" (Sh.top 28) ["value", "host"] := by
      unfold L2.KOf
      refine' Sh.at_def (st := Sh.top 28) KX G ?a ?l ?c ?k ?b
      (case a => k_is); (case l => k_is); (case c => k_is); (case k => k_is); (case b => exact fun _ _ _ _ _ _ us hl => match us, hl with | [_, _], _ => rfl)
    have d__law_is_protocol : Sh.DefAt (L2.KOf KX) mg "_law_is_protocol" (Sh.top 29) ["value"] := by
      unfold L2.KOf
      refine' Sh.at_def (st := Sh.top 29) KX G ?a ?l ?c ?k ?b
      (case a => k_is); (case l => k_is); (case c => k_is); (case k => k_is); (case b => exact fun _ _ _ _ _ _ us hl => match us, hl with | [_], _ => rfl)
    have d_law : Sh.DefAt (L2.KOf KX) mg "law" (Sh.top 37) ["script"] := by
      unfold L2.KOf
      refine' Sh.at_def (st := Sh.top 37) KX G ?a ?l ?c ?k ?b
      (case a => k_is); (case l => k_is); (case c => k_is); (case k => k_is); (case b => exact fun _ _ _ _ _ _ us hl => match us, hl with | [_], _ => rfl)
    refine ⟨⟨_, d_law, fun _ _ _ _ _ _ _ => rfl⟩, fun base _ _ => Sh.all_ok ⟨n_range, n_int, n_len, n_list, n_tuple, n_str, n_isinstance, n_bool, c_WHENS, c_ACTS, c_MOST_STATES, c_MOST_RULES, n_all⟩ n_set ⟨d__law_numbers, d__law_draw, d__law_take, d__law_pick, d__law_shuffled, d__law_bases, d__law_renamed, d__law_fit_rules, d__law_whens, d__law_acts, d__law_drawn_rule, d__law_varied, d__law_protocol, d__law_either, d__law_listed, d__law_handed, d__law_spoilt_protocol, d__law_so, d_is_sequence, d_is_row, d_are_different, d_is_integer, d_is_integer_from, d_is_rule, d_is_side, d_is_protocol, d__law_tupled, d__law_whole, d__law_is_side, d__law_is_protocol, d_law⟩⟩
