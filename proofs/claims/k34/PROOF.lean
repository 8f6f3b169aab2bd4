import PyProof.Rows.All
import Wide.All
import OpenK.AllK
import Wide.FinOn
import HandS.ForMost
import HandS.ForExc
import HandS.TupAny
import PyProof.ListRange
import PyProof.RowDictHeap
import KE.KTupSum
import OpenK.KOps
import HandS.Dict
import HandS.IsInst
import HandS.Zip
import HandS.Defaults
import HandS.MakeKwOnly
import KE.GoesEnumKw
import KE.GoesMore
import HandS.Iter
import HandS.OwnEq
import HandS.TupMul
import KE.DataMinMax
import PySem.Challenge.RW_rateplan_k34_plans_within_bounds
set_option Elab.async false
set_option linter.all false
set_option maxRecDepth 100000
set_option maxHeartbeats 4000000
/-! A second layer over the hand layer: values as data (D), the changing objects as a list (O), numbered; no address, no heap is seen by what stands above. -/
namespace Rp
open PySem PySem.Spec PyProof.Rows L2
/-- a value: a scalar, a tuple of values, the number of a changing object, a list of whole numbers that is only read -/
inductive D where
  | v (x : V)
  | tup (ds : List D)
  | ptr (i : Nat)
  | scr (ns : List Int)
/-- a changing object -/
inductive O where
  | lst (ds : List D)
  | ins (C : Addr) (fs : List (Str × D))
  | dK (kvs : List (Key × D))
abbrev OH := List O
abbrev SH := List (Option D)
abbrev KH := D → OH → Prop
def SqF (K : PySem.W.Frag) (H : Hp) (a : Addr) (xs : List V) : Prop :=
  (∃ o, H a = some (.frz o (.lst xs))) ∨ ∃ (o : Obj) (its : Array Value) (n : Nat), K.lookup a = some o ∧ o.cls = .type "list" ∧ o.dict = none ∧ o.data = .seq its n ∧ its.size ≤ sizeLine ∧ Vals xs its.toList
theorem SqF.l {K : PySem.W.Frag} {H : Hp} {a : Addr} {xs : List V} (h : SqF K H a xs) : SqL K H a xs := h.imp (fun h => .inr h) fun h => h
mutual
inductive RD (K : PySem.W.Frag) (θ : List Addr) (H : Hp) : V → D → Prop
  | v (x : V) : RD K θ H x (.v x)
  | ptr {i : Nat} {a : Addr} (h : θ[i]? = some a) : RD K θ H (.ref a) (.ptr i)
  | tup {a : Addr} {xs : List V} {ds : List D} (h : SqT K H a xs) (r : RDs K θ H xs ds) : RD K θ H (.ref a) (.tup ds)
  | scr {a : Addr} {ns : List Int} (h : SqF K H a (ns.map V.int)) : RD K θ H (.ref a) (.scr ns)
inductive RDs (K : PySem.W.Frag) (θ : List Addr) (H : Hp) : List V → List D → Prop
  | nil : RDs K θ H [] []
  | cons {x : V} {d : D} {xs : List V} {ds : List D} (h : RD K θ H x d) (t : RDs K θ H xs ds) : RDs K θ H (x :: xs) (d :: ds)
end
/-- tuples and what is only read stay -/
structure Stab (H H' : Hp) : Prop where
  tup : ∀ a xs, H a = some (.tup xs) → H' a = some (.tup xs)
  frz : ∀ a o u, H a = some (.frz o u) → H' a = some (.frz o u)
theorem Stab.refl (H : Hp) : Stab H H := ⟨fun _ _ h => h, fun _ _ _ h => h⟩
theorem Stab.trans {H H1 H2 : Hp} (a : Stab H H1) (b : Stab H1 H2) : Stab H H2 := ⟨fun _ _ h => b.tup _ _ (a.tup _ _ h), fun _ _ _ h => b.frz _ _ _ (a.frz _ _ _ h)⟩
theorem SqT.stab {K : PySem.W.Frag} {H H' : Hp} {a : Addr} {xs : List V} (h : SqT K H a xs) (s : Stab H H') : SqT K H' a xs := by
  rcases h with (h | ⟨o, h⟩) | h
  · exact .inl (.inl (s.tup _ _ h))
  · exact .inl (.inr ⟨o, s.frz _ _ _ h⟩)
  · exact .inr h
theorem SqF.stab {K : PySem.W.Frag} {H H' : Hp} {a : Addr} {xs : List V} (h : SqF K H a xs) (s : Stab H H') : SqF K H' a xs := by
  rcases h with ⟨o, h⟩ | h
  · exact .inl ⟨o, s.frz _ _ _ h⟩
  · exact .inr h
mutual
theorem RD.stab {K : PySem.W.Frag} {θ t : List Addr} {H H' : Hp} (s : Stab H H') : ∀ {v : V} {d : D}, RD K θ H v d → RD K (θ ++ t) H' v d
  | _, _, .v x => .v x
  | _, _, .ptr h => .ptr (by rw [List.getElem?_append_left (List.getElem?_eq_some_iff.mp h).1]; exact h)
  | _, _, .tup h r => .tup (SqT.stab h s) (RDs.stab s r)
  | _, _, .scr h => .scr (SqF.stab h s)
theorem RDs.stab {K : PySem.W.Frag} {θ t : List Addr} {H H' : Hp} (s : Stab H H') : ∀ {vs : List V} {ds : List D}, RDs K θ H vs ds → RDs K (θ ++ t) H' vs ds
  | _, _, .nil => .nil
  | _, _, .cons h r => .cons (RD.stab s h) (RDs.stab s r)
end
/-- the objects θ have become θ', the heap H H' -/
structure Ext (θ : List Addr) (H : Hp) (θ' : List Addr) (H' : Hp) : Prop where
  pre : ∃ t, θ' = θ ++ t
  new : ∀ a ∈ θ', a ∈ θ ∨ H a = none
  stay : ∀ b o, b ∉ θ → H b = some o → H' b = some o
  stab : Stab H H'
theorem Ext.refl (θ : List Addr) (H : Hp) : Ext θ H θ H := ⟨⟨[], by rw [List.append_nil]⟩, fun _ h => .inl h, fun _ _ _ h => h, .refl H⟩
theorem Ext.trans {θ θ1 θ2 : List Addr} {H H1 H2 : Hp} (a : Ext θ H θ1 H1) (b : Ext θ1 H1 θ2 H2) : Ext θ H θ2 H2 := by
  obtain ⟨t, e⟩ := a.pre
  obtain ⟨u, e'⟩ := b.pre
  refine ⟨⟨t ++ u, by rw [e', e, List.append_assoc]⟩, fun x hx => ?_, fun x o nx h => ?_, a.stab.trans b.stab⟩
  · rcases b.new x hx with h | h
    · exact a.new x h
    · by_cases q : x ∈ θ
      · exact .inl q
      · cases e : H x with
        | none => exact .inr rfl
        | some o => have := a.stay x o q e; rw [h] at this; cases this
  · refine b.stay x o (fun h1 => ?_) (a.stay x o nx h)
    rcases a.new x h1 with q | q
    · exact nx q
    · rw [h] at q; cases q
theorem RD.ext {K : PySem.W.Frag} {θ θ' : List Addr} {H H' : Hp} {v : V} {d : D} (h : RD K θ H v d) (e : Ext θ H θ' H') : RD K θ' H' v d := by
  obtain ⟨t, rfl⟩ := e.pre
  exact h.stab e.stab
theorem RDs.ext {K : PySem.W.Frag} {θ θ' : List Addr} {H H' : Hp} {v : List V} {d : List D} (h : RDs K θ H v d) (e : Ext θ H θ' H') : RDs K θ' H' v d := by
  obtain ⟨t, rfl⟩ := e.pre
  exact h.stab e.stab
theorem RDs.length {K : PySem.W.Frag} {θ : List Addr} {H : Hp} : ∀ {vs : List V} {ds : List D}, RDs K θ H vs ds → vs.length = ds.length
  | _, _, .nil => rfl
  | _, _, .cons _ t => by rw [List.length_cons, List.length_cons, RDs.length t]
theorem RDs.get {K : PySem.W.Frag} {θ : List Addr} {H : Hp} : ∀ {vs : List V} {ds : List D} {i : Nat} {d : D}, RDs K θ H vs ds → ds[i]? = some d → ∃ v, vs[i]? = some v ∧ RD K θ H v d
  | _, _, 0, _, .cons h _, e => by simp at e; subst e; exact ⟨_, rfl, h⟩
  | _, _, i + 1, _, .cons _ t, e => by
    obtain ⟨v, h1, h2⟩ := RDs.get (i := i) t (by simpa using e)
    exact ⟨v, by simpa using h1, h2⟩
theorem RDs.get' {K : PySem.W.Frag} {θ : List Addr} {H : Hp} : ∀ {vs : List V} {ds : List D} {i : Nat} {v : V}, RDs K θ H vs ds → vs[i]? = some v → ∃ d, ds[i]? = some d ∧ RD K θ H v d
  | _, _, 0, _, .cons h _, e => by simp at e; subst e; exact ⟨_, rfl, h⟩
  | _, _, i + 1, _, .cons _ t, e => by
    obtain ⟨v, h1, h2⟩ := RDs.get' (i := i) t (by simpa using e)
    exact ⟨v, by simpa using h1, h2⟩
theorem RDs.append {K : PySem.W.Frag} {θ : List Addr} {H : Hp} : ∀ {vs vs' : List V} {ds ds' : List D}, RDs K θ H vs ds → RDs K θ H vs' ds' → RDs K θ H (vs ++ vs') (ds ++ ds')
  | _, _, _, _, .nil, h => h
  | _, _, _, _, .cons a t, h => .cons a (RDs.append t h)
theorem RDs.take {K : PySem.W.Frag} {θ : List Addr} {H : Hp} : ∀ {vs : List V} {ds : List D} (n : Nat), RDs K θ H vs ds → RDs K θ H (vs.take n) (ds.take n)
  | _, _, 0, _ => .nil
  | _, _, _ + 1, .nil => .nil
  | _, _, n + 1, .cons a t => .cons a (RDs.take n t)
theorem RDs.drop {K : PySem.W.Frag} {θ : List Addr} {H : Hp} : ∀ {vs : List V} {ds : List D} (n : Nat), RDs K θ H vs ds → RDs K θ H (vs.drop n) (ds.drop n)
  | _, _, 0, h => h
  | _, _, _ + 1, .nil => .nil
  | _, _, n + 1, .cons _ t => RDs.drop n t
theorem RDs.reverse {K : PySem.W.Frag} {θ : List Addr} {H : Hp} : ∀ {vs : List V} {ds : List D}, RDs K θ H vs ds → RDs K θ H vs.reverse ds.reverse
  | _, _, .nil => .nil
  | _, _, .cons a t => by rw [List.reverse_cons, List.reverse_cons]; exact RDs.append (RDs.reverse t) (.cons a .nil)
theorem RDs.set {K : PySem.W.Frag} {θ : List Addr} {H : Hp} {v : V} {d : D} (r : RD K θ H v d) : ∀ {vs : List V} {ds : List D} (i : Nat), RDs K θ H vs ds → RDs K θ H (vs.set i v) (ds.set i d)
  | _, _, _, .nil => .nil
  | _, _, 0, .cons _ t => .cons r t
  | _, _, i + 1, .cons a t => .cons a (RDs.set r i t)
theorem RDs.replicate {K : PySem.W.Frag} {θ : List Addr} {H : Hp} {vs : List V} {ds : List D} (h : RDs K θ H vs ds) : ∀ n : Nat, RDs K θ H (List.replicate n vs).flatten (List.replicate n ds).flatten
  | 0 => .nil
  | n + 1 => by rw [List.replicate_succ, List.replicate_succ, List.flatten_cons, List.flatten_cons]; exact RDs.append h (RDs.replicate h n)
theorem RDs.eraseIdx {K : PySem.W.Frag} {θ : List Addr} {H : Hp} : ∀ {vs : List V} {ds : List D} (n : Nat), RDs K θ H vs ds → RDs K θ H (vs.eraseIdx n) (ds.eraseIdx n)
  | _, _, _, .nil => by simp; exact .nil
  | _, _, 0, .cons a t => t
  | _, _, n + 1, .cons a t => .cons a (RDs.eraseIdx n t)
theorem RDs.dropLast {K : PySem.W.Frag} {θ : List Addr} {H : Hp} {vs : List V} {ds : List D} (h : RDs K θ H vs ds) : RDs K θ H vs.dropLast ds.dropLast := by
  rw [List.dropLast_eq_take, List.dropLast_eq_take, h.length]
  exact h.take _
theorem RDs.scal {K : PySem.W.Frag} {θ : List Addr} {H : Hp} {α : Type} (f : α → V) : ∀ xs : List α, RDs K θ H (xs.map f) (xs.map fun x => D.v (f x))
  | [] => .nil
  | x :: xs => .cons (.v _) (RDs.scal f xs)
/-- the values of scalars -/
theorem RDs.of_scal {K : PySem.W.Frag} {θ : List Addr} {H : Hp} {α : Type} (f : α → V) : ∀ {vs : List V} {xs : List α}, RDs K θ H vs (xs.map fun x => D.v (f x)) → vs = xs.map f
  | _, [], .nil => rfl
  | _, _ :: _, .cons (.v _) t => by rw [RDs.of_scal f t]; rfl

inductive RF (K : PySem.W.Frag) (θ : List Addr) (H : Hp) {κ : Type} : List (κ × V) → List (κ × D) → Prop
  | nil : RF K θ H [] []
  | cons {n : κ} {x : V} {d : D} {xs : List (κ × V)} {ds : List (κ × D)} (h : RD K θ H x d) (t : RF K θ H xs ds) : RF K θ H ((n, x) :: xs) ((n, d) :: ds)
theorem RF.stab {K : PySem.W.Frag} {θ t : List Addr} {H H' : Hp} {κ : Type} (s : Stab H H') : ∀ {vs : List (κ × V)} {ds : List (κ × D)}, RF K θ H vs ds → RF K (θ ++ t) H' vs ds
  | _, _, .nil => .nil
  | _, _, .cons h r => .cons (h.stab s) (RF.stab s r)
theorem RF.length {K : PySem.W.Frag} {θ : List Addr} {H : Hp} {κ : Type} : ∀ {vs : List (κ × V)} {ds : List (κ × D)}, RF K θ H vs ds → vs.length = ds.length
  | _, _, .nil => rfl
  | _, _, .cons _ t => by rw [List.length_cons, List.length_cons, RF.length t]
theorem RF.lookup {K : PySem.W.Frag} {θ : List Addr} {H : Hp} {f : Str} : ∀ {vs : List (Str × V)} {ds : List (Str × D)} {d : D}, RF K θ H vs ds → ds.lookup f = some d → ∃ v, vs.lookup f = some v ∧ RD K θ H v d
  | _, _, d, .cons (n := n) (x := x) (d := e) (xs := xs) (ds := ds) h t, q => by
    rw [List.lookup_cons] at q ⊢
    cases c : f == n with
    | true => simp only [c] at q ⊢; cases q; exact ⟨x, rfl, h⟩
    | false => simp only [c] at q ⊢; exact RF.lookup t q
theorem RF.lookup_none {K : PySem.W.Frag} {θ : List Addr} {H : Hp} {f : Str} : ∀ {vs : List (Str × V)} {ds : List (Str × D)}, RF K θ H vs ds → ds.lookup f = none → vs.lookup f = none
  | _, _, .nil, _ => rfl
  | _, _, .cons (n := n) h t, q => by
    rw [List.lookup_cons] at q ⊢
    cases c : f == n with
    | true => simp only [c] at q; cases q
    | false => simp only [c] at q ⊢; exact RF.lookup_none t q
def putD (f : Str) (v : D) : List (Str × D) → List (Str × D)
  | [] => [(f, v)]
  | (g, w) :: r => if g = f then (g, v) :: r else (g, w) :: putD f v r
def RO (K : PySem.W.Frag) (θ : List Addr) (H : Hp) (a : Addr) : O → Prop
  | .lst ds => ∃ xs, H a = some (.lst xs) ∧ RDs K θ H xs ds
  | .ins C fs => ∃ dx xs, H a = some (.ins C dx xs) ∧ H dx = some (.own a) ∧ RF K θ H xs fs
  | .dK kvs => ∃ xs, H a = some (.dK xs) ∧ RF K θ H xs kvs
structure RA (K : PySem.W.Frag) (θ : List Addr) (H : Hp) (A : OH) : Prop where
  len : θ.length = A.length
  nd : θ.Nodup
  ok : ∀ (i : Nat) (a : Addr) (o : O), θ[i]? = some a → A[i]? = some o → RO K θ H a o
theorem RO.mut {K : PySem.W.Frag} {θ : List Addr} {H : Hp} {a : Addr} {o : O} (h : RO K θ H a o) : ∃ u, H a = some u ∧ Mut (some u) := by
  cases o with
  | lst ds => obtain ⟨xs, h, _⟩ := h; exact ⟨_, h, True.intro⟩
  | ins C fs => obtain ⟨dx, xs, h, _⟩ := h; exact ⟨_, h, True.intro⟩
  | dK kvs => obtain ⟨xs, h, _⟩ := h; exact ⟨_, h, True.intro⟩
theorem RA.mut {K : PySem.W.Frag} {θ : List Addr} {H : Hp} {A : OH} (r : RA K θ H A) {a : Addr} (h : a ∈ θ) : ∃ u, H a = some u ∧ Mut (some u) := by
  obtain ⟨i, hi, e⟩ := List.mem_iff_getElem.mp h
  have h1 : θ[i]? = some a := by rw [List.getElem?_eq_getElem hi, e]
  have hi' : i < A.length := by rw [← r.len]; exact hi
  have h2 : A[i]? = some A[i] := List.getElem?_eq_getElem hi'
  exact (r.ok i a _ h1 h2).mut
theorem RA.at {K : PySem.W.Frag} {θ : List Addr} {H : Hp} {A : OH} (r : RA K θ H A) {i : Nat} {o : O} (h : A[i]? = some o) : ∃ a, θ[i]? = some a ∧ RO K θ H a o := by
  have hi : i < θ.length := by rw [r.len]; exact (List.getElem?_eq_some_iff.mp h).1
  exact ⟨θ[i], List.getElem?_eq_getElem hi, r.ok i _ o (List.getElem?_eq_getElem hi) h⟩
theorem RO.stab {K : PySem.W.Frag} {θ t : List Addr} {H H' : Hp} {a : Addr} {o : O} (h : RO K θ H a o) (s : Stab H H') (ha : H' a = H a) (hd : ∀ dx, H dx = some (.own a) → H' dx = some (.own a)) : RO K (θ ++ t) H' a o := by
  cases o with
  | lst ds => obtain ⟨xs, h, r⟩ := h; exact ⟨xs, by rw [ha]; exact h, r.stab s⟩
  | ins C fs => obtain ⟨dx, xs, h, d, r⟩ := h; exact ⟨dx, xs, by rw [ha]; exact h, hd dx d, r.stab s⟩
  | dK kvs => obtain ⟨xs, h, r⟩ := h; exact ⟨xs, by rw [ha]; exact h, r.stab s⟩
/-- a new thing that is not numbered -/
theorem stab_new {H : Hp} {p : Addr} {o : HO} (h : H p = none) : Stab H (upd H p o) :=
  ⟨fun a xs e => by rw [upd_ne (ne_of_none e h)]; exact e, fun a o u e => by rw [upd_ne (ne_of_none e h)]; exact e⟩
theorem Ext.new0 {θ : List Addr} {H : Hp} {p : Addr} {o : HO} (h : H p = none) : Ext θ H θ (upd H p o) :=
  ⟨⟨[], by rw [List.append_nil]⟩, fun _ h => .inl h, fun b u _ e => by rw [upd_ne (ne_of_none e h)]; exact e, stab_new h⟩
theorem RA.new0 {K : PySem.W.Frag} {θ : List Addr} {H : Hp} {A : OH} {p : Addr} {u : HO} (r : RA K θ H A) (h : H p = none) : RA K θ (upd H p u) A :=
  ⟨r.len, r.nd, fun i a o h1 h2 => by
    have q := (r.ok i a o h1 h2)
    obtain ⟨u', hu, _⟩ := q.mut
    have := q.stab (t := []) (stab_new (o := u) h) (by rw [upd_ne (ne_of_none hu h)]) fun dx e => by rw [upd_ne (ne_of_none e h)]; exact e
    rw [List.append_nil] at this
    exact this⟩
theorem Ext.same {θ : List Addr} {H H' : Hp} (s : Same H H') : Ext θ H θ H' :=
  ⟨⟨[], by rw [List.append_nil]⟩, fun _ h => .inl h, fun b u _ e => s _ _ e, fun _ _ e => s _ _ e, fun _ _ _ e => s _ _ e⟩
theorem RA.same {K : PySem.W.Frag} {θ : List Addr} {H H' : Hp} {A : OH} (r : RA K θ H A) (s : Same H H') : RA K θ H' A :=
  ⟨r.len, r.nd, fun i a o h1 h2 => by
    have q := (r.ok i a o h1 h2)
    obtain ⟨u', hu, _⟩ := q.mut
    have := q.stab (t := []) (Ext.same (θ := θ) s).stab (by rw [hu, s _ _ hu]) fun dx e => s _ _ e
    rw [List.append_nil] at this
    exact this⟩
/-- a new object, numbered -/
theorem RA.add {K : PySem.W.Frag} {θ : List Addr} {H H' : Hp} {A : OH} {p : Addr} {o : O} (r : RA K θ H A) (h : H p = none) (s : Same H H') (new : RO K (θ ++ [p]) H' p o) : RA K (θ ++ [p]) H' (A ++ [o]) := by
  refine ⟨by rw [List.length_append, List.length_append, r.len]; rfl, ?_, fun i a o' h1 h2 => ?_⟩
  · rw [List.nodup_append]
    refine ⟨r.nd, by simp, fun a ha b hb => ?_⟩
    rw [List.mem_singleton.mp hb]
    obtain ⟨u, hu, _⟩ := r.mut ha
    exact ne_of_none hu h
  · by_cases hi : i < θ.length
    · rw [List.getElem?_append_left hi] at h1
      rw [List.getElem?_append_left (by rw [← r.len]; exact hi)] at h2
      have q := r.ok i a o' h1 h2
      obtain ⟨u', hu, _⟩ := q.mut
      exact q.stab (Ext.same (θ := θ) s).stab (by rw [hu, s _ _ hu]) fun dx e => s _ _ e
    · rw [List.getElem?_append_right (by omega)] at h1
      rw [List.getElem?_append_right (by rw [← r.len]; omega)] at h2
      have e : i - θ.length = 0 := by
        have := (List.getElem?_eq_some_iff.mp h1).1
        simp at this
        omega
      rw [e] at h1
      rw [← r.len, e] at h2
      simp at h1 h2
      subst h1 h2
      exact new
theorem Ext.add {θ : List Addr} {H H' : Hp} {p : Addr} (h : H p = none) (s : Same H H') : Ext θ H (θ ++ [p]) H' :=
  ⟨⟨[p], rfl⟩, fun a ha => by
    rcases List.mem_append.mp ha with q | q
    · exact .inl q
    · rw [List.mem_singleton.mp q]; exact .inr h, fun b u _ e => s _ _ e, fun _ _ e => s _ _ e, fun _ _ _ e => s _ _ e⟩
/-- a numbered object is written -/
theorem stab_put {H : Hp} {a : Addr} {u : HO} (mu : Mut (H a)) : Stab H (upd H a u) :=
  ⟨fun b xs e => by rw [upd_ne fun z => by subst z; rw [e] at mu; exact mu]; exact e, fun b o w e => by rw [upd_ne fun z => by subst z; rw [e] at mu; exact mu]; exact e⟩
theorem Ext.put {θ : List Addr} {H : Hp} {a : Addr} {u : HO} (h : a ∈ θ) (mu : Mut (H a)) : Ext θ H θ (upd H a u) :=
  ⟨⟨[], by rw [List.append_nil]⟩, fun _ h => .inl h, fun b w nb e => by rw [upd_ne fun z => nb (by rw [z]; exact h)]; exact e, stab_put mu⟩
theorem RA.put {K : PySem.W.Frag} {θ : List Addr} {H : Hp} {A : OH} {i : Nat} {a : Addr} {u : HO} {o o' : O} (r : RA K θ H A) (h : θ[i]? = some a) (ho : A[i]? = some o) (mu : Mut (H a)) (new : RO K θ (upd H a u) a o') : RA K θ (upd H a u) (A.set i o') := by
  refine ⟨by rw [List.length_set]; exact r.len, r.nd, fun j b w h1 h2 => ?_⟩
  by_cases e : i = j
  · subst e
    rw [h] at h1
    cases h1
    rw [List.getElem?_set_self (List.getElem?_eq_some_iff.mp ho).1] at h2
    cases h2
    exact new
  · rw [List.getElem?_set_ne e] at h2
    have ne : b ≠ a := fun z => by
      subst z
      obtain ⟨hi, e1⟩ := List.getElem?_eq_some_iff.mp h
      obtain ⟨hj, e2⟩ := List.getElem?_eq_some_iff.mp h1
      exact e ((List.getElem_inj r.nd).mp (e1.trans e2.symm))
    have q := (r.ok j b w h1 h2).stab (t := []) (stab_put (u := u) mu) (by rw [upd_ne ne]) fun dx e => by rw [upd_ne fun z => by subst z; rw [e] at mu; exact mu]; exact e
    rw [List.append_nil] at q
    exact q
theorem RD.stab0 {K : PySem.W.Frag} {θ : List Addr} {H H' : Hp} {v : V} {d : D} (h : RD K θ H v d) (s : Stab H H') : RD K θ H' v d := by
  have := h.stab (t := []) s
  rw [List.append_nil] at this
  exact this
theorem RDs.stab0 {K : PySem.W.Frag} {θ : List Addr} {H H' : Hp} {v : List V} {d : List D} (h : RDs K θ H v d) (s : Stab H H') : RDs K θ H' v d := by
  have := h.stab (t := []) s
  rw [List.append_nil] at this
  exact this
theorem RF.stab0 {κ : Type} {K : PySem.W.Frag} {θ : List Addr} {H H' : Hp} {v : List (κ × V)} {d : List (κ × D)} (h : RF K θ H v d) (s : Stab H H') : RF K θ H' v d := by
  have := h.stab (t := []) s
  rw [List.append_nil] at this
  exact this
/-! ### slots -/
inductive RV (K : PySem.W.Frag) (θ : List Addr) (H : Hp) : Option V → Option D → Prop
  | none : RV K θ H none none
  | some {x : V} {d : D} (h : RD K θ H x d) : RV K θ H (some x) (some d)
inductive RS (K : PySem.W.Frag) (θ : List Addr) (H : Hp) : L2.St → SH → Prop
  | nil : RS K θ H [] []
  | cons {x : Option V} {d : Option D} {xs : L2.St} {ds : SH} (h : RV K θ H x d) (t : RS K θ H xs ds) : RS K θ H (x :: xs) (d :: ds)
theorem RV.ext {K : PySem.W.Frag} {θ θ' : List Addr} {H H' : Hp} {x : Option V} {d : Option D} (h : RV K θ H x d) (e : Ext θ H θ' H') : RV K θ' H' x d := by
  cases h with
  | none => exact .none
  | some h => exact .some (h.ext e)
theorem RS.ext {K : PySem.W.Frag} {θ θ' : List Addr} {H H' : Hp} (e : Ext θ H θ' H') : ∀ {σ : L2.St} {σh : SH}, RS K θ H σ σh → RS K θ' H' σ σh
  | _, _, .nil => .nil
  | _, _, .cons h t => .cons (h.ext e) (RS.ext e t)
theorem RS.get {K : PySem.W.Frag} {θ : List Addr} {H : Hp} : ∀ {σ : L2.St} {σh : SH} {i : Nat} {d : D}, RS K θ H σ σh → σh[i]? = some (some d) → ∃ v, σ[i]? = some (some v) ∧ RD K θ H v d
  | _, _, 0, _, .cons h _, e => by
    simp at e
    subst e
    cases h with
    | some h => exact ⟨_, rfl, h⟩
  | _, _, i + 1, _, .cons _ t, e => by
    obtain ⟨v, h1, h2⟩ := RS.get (i := i) t (by simpa using e)
    exact ⟨v, by simpa using h1, h2⟩
theorem RS.set {K : PySem.W.Frag} {θ : List Addr} {H : Hp} {v : Option V} {d : Option D} (r : RV K θ H v d) : ∀ {σ : L2.St} {σh : SH} (i : Nat), RS K θ H σ σh → RS K θ H (σ.set i v) (σh.set i d)
  | _, _, _, .nil => .nil
  | _, _, 0, .cons _ t => .cons r t
  | _, _, i + 1, .cons a t => .cons a (RS.set r i t)
theorem RS.append {K : PySem.W.Frag} {θ : List Addr} {H : Hp} : ∀ {σ σ' : L2.St} {ds ds' : SH}, RS K θ H σ ds → RS K θ H σ' ds' → RS K θ H (σ ++ σ') (ds ++ ds')
  | _, _, _, _, .nil, h => h
  | _, _, _, _, .cons a t, h => .cons a (RS.append t h)
theorem RS.of {K : PySem.W.Frag} {θ : List Addr} {H : Hp} : ∀ {vs : List V} {ds : List D}, RDs K θ H vs ds → RS K θ H (vs.map some) (ds.map some)
  | _, _, .nil => .nil
  | _, _, .cons h t => .cons (.some h) (RS.of t)
theorem RS.nones {K : PySem.W.Frag} {θ : List Addr} {H : Hp} : ∀ n : Nat, RS K θ H (List.replicate n none) (List.replicate n none)
  | 0 => .nil
  | n + 1 => .cons .none (RS.nones n)
def startH (n : Nat) (ds : List D) : SH := ds.map some ++ List.replicate (n - ds.length) none
theorem RS.start {K : PySem.W.Frag} {θ : List Addr} {H : Hp} {N : List Str} {vs : List V} {ds : List D} (h : RDs K θ H vs ds) : RS K θ H (L2.start N vs) (startH N.length ds) := by
  unfold L2.start startH
  rw [h.length]
  exact RS.append (.of h) (.nones _)
def wipeH (σ : SH) : List Nat → SH
  | [] => σ
  | v :: vs => (wipeH σ vs).set v none
theorem RS.wipe {K : PySem.W.Frag} {θ : List Addr} {H : Hp} {σ : L2.St} {σh : SH} (h : RS K θ H σ σh) : ∀ vs : List Nat, RS K θ H (L2.wipe σ vs) (wipeH σh vs)
  | [] => h
  | v :: vs => RS.set .none v (RS.wipe h vs)
end Rp

/-! Expressions over data. -/
namespace Rp
open PySem PySem.Spec PyProof.Rows L2
abbrev TEh := SH → OH → KH → Prop
abbrev TTh := SH → OH → (Bool → OH → Prop) → Prop
abbrev TAh := SH → OH → (List D → OH → Prop) → Prop
abbrev TOh := SH → OH → (Option Int → OH → Prop) → Prop
/-- what is wanted of a value: by data -/
def Kt (K : PySem.W.Frag) (θ : List Addr) (H : Hp) (Q : VK) (Qh : KH) : Prop := ∀ θ' H' A' v d, Ext θ H θ' H' → RA K θ' H' A' → RD K θ' H' v d → Qh d A' → Q v H'
def lift (K : PySem.W.Frag) (t : TEh) : TE := fun σ H Q => ∃ θ σh A Qh, RS K θ H σ σh ∧ RA K θ H A ∧ t σh A Qh ∧ Kt K θ H Q Qh
def liftT (K : PySem.W.Frag) (t : TTh) : TT := fun σ H Q => ∃ θ σh A Qh, RS K θ H σ σh ∧ RA K θ H A ∧ t σh A Qh ∧ ∀ θ' H' A' b, Ext θ H θ' H' → RA K θ' H' A' → Qh b A' → Q b H'
def liftA (K : PySem.W.Frag) (t : TAh) : TA := fun σ H Q => ∃ θ σh A Qh, RS K θ H σ σh ∧ RA K θ H A ∧ t σh A Qh ∧ ∀ θ' H' A' vs ds, Ext θ H θ' H' → RA K θ' H' A' → RDs K θ' H' vs ds → Qh ds A' → Q vs H'
def liftO (K : PySem.W.Frag) (t : TOh) : TO := fun σ H Q => ∃ θ σh A Qh, RS K θ H σ σh ∧ RA K θ H A ∧ t σh A Qh ∧ ∀ θ' H' A' o, Ext θ H θ' H' → RA K θ' H' A' → Qh o A' → Q o H'
section
variable {X : Cx} {e : Expr} {t t' : TE}
theorem _root_.L2.PE.imp (h : PE X e t) (f : ∀ σ H Q, t' σ H Q → t σ H Q) : PE X e t' := ⟨fun pins s σ H Q I w => h.run pins s σ H Q I (f σ H Q w)⟩
theorem _root_.L2.PT.imp {t t' : TT} (h : PT X e t) (f : ∀ σ H Q, t' σ H Q → t σ H Q) : PT X e t' := ⟨fun pins s σ H Q I w => h.run pins s σ H Q I (f σ H Q w)⟩
theorem _root_.L2.PW.imp {t t' : TT} (h : PW X e t) (f : ∀ σ H Q, t' σ H Q → t σ H Q) : PW X e t' := ⟨fun whole pins s σ H Q I w => h.run whole pins s σ H Q I (f σ H Q w)⟩
theorem _root_.L2.PA.imp {es : List Expr} {t t' : TA} (h : PA X es t) (f : ∀ σ H Q, t' σ H Q → t σ H Q) : PA X es t' := ⟨fun pos pins s σ H Q I w => h.run pos pins s σ H Q I (f σ H Q w)⟩
theorem _root_.L2.PO.imp {eo : Option Expr} {t t' : TO} (h : PO X eo t) (f : ∀ σ H Q, t' σ H Q → t σ H Q) : PO X eo t' := ⟨fun pins s σ H Q I w => h.run pins s σ H Q I (f σ H Q w)⟩
end
theorem Kt.here {K : PySem.W.Frag} {θ : List Addr} {H : Hp} {A : OH} {Q : VK} {Qh : KH} {v : V} {d : D} (k : Kt K θ H Q Qh) (ra : RA K θ H A) (r : RD K θ H v d) (q : Qh d A) : Q v H := k _ _ _ _ _ (.refl _ _) ra r q
theorem Kt.ext {K : PySem.W.Frag} {θ θ' : List Addr} {H H' : Hp} {Q : VK} {Qh : KH} (k : Kt K θ H Q Qh) (e : Ext θ H θ' H') : Kt K θ' H' Q Qh := fun _ _ _ _ _ e' ra r q => k _ _ _ _ _ (e.trans e') ra r q
/-- a new object is numbered -/
structure New (A : OH) (k : Nat) (o : O) (A' : OH) : Prop where
  eq : k = A.length
  eq' : A' = A ++ [o]
theorem New.get {A : OH} {k : Nat} {o : O} {A' : OH} (n : New A k o A') : A'[k]? = some o := by
  rw [n.eq', n.eq]; simp
theorem New.old {A : OH} {k : Nat} {o : O} {A' : OH} (n : New A k o A') {i : Nat} {u : O} (h : A[i]? = some u) : A'[i]? = some u := by
  rw [n.eq', List.getElem?_append_left (List.getElem?_eq_some_iff.mp h).1]; exact h
theorem New.ne {A : OH} {k : Nat} {o : O} {A' : OH} (n : New A k o A') {i : Nat} {u : O} (h : A[i]? = some u) : i ≠ k := by
  have := (List.getElem?_eq_some_iff.mp h).1
  have := n.eq
  omega
structure Put (A : OH) (k : Nat) (o : O) (A' : OH) : Prop where
  lt : k < A.length
  eq' : A' = A.set k o
theorem Put.get {A : OH} {k : Nat} {o : O} {A' : OH} (n : Put A k o A') : A'[k]? = some o := by
  rw [n.eq', List.getElem?_set_self n.lt]
theorem Put.old {A : OH} {k : Nat} {o : O} {A' : OH} (n : Put A k o A') {i : Nat} {u : O} (hi : i ≠ k) (h : A[i]? = some u) : A'[i]? = some u := by
  rw [n.eq', List.getElem?_set_ne (Ne.symm hi)]; exact h
def NewQ (A : OH) (o : O) (Q : KH) : Prop := ∀ k A', New A k o A' → Q (.ptr k) A'
def PutQ (A : OH) (k : Nat) (o : O) (Q : OH → Prop) : Prop := ∀ A', Put A k o A' → Q A'
section
variable {K : PySem.W.Frag} {θ : List Addr} {H : Hp} {A : OH} {Q : VK} {Qh : KH} {xs : List V} {ds : List D} {p : Addr}
theorem Kt.lst (k : Kt K θ H Q Qh) (ra : RA K θ H A) (r : RDs K θ H xs ds) (h : NewQ A (.lst ds) Qh) (hp : H p = none) : Q (.ref p) (upd H p (.lst xs)) := by
  have s : Same H (upd H p (.lst xs)) := fun b u e => by rw [upd_ne (ne_of_none e hp)]; exact e
  refine k (θ ++ [p]) _ (A ++ [.lst ds]) _ (.ptr A.length) (.add hp s) (ra.add (o := .lst ds) hp s ⟨xs, upd_same, r.ext (.add hp s)⟩) (.ptr ?_) (h _ _ ⟨rfl, rfl⟩)
  rw [← ra.len]; simp
theorem Kt.tup (k : Kt K θ H Q Qh) (ra : RA K θ H A) (r : RDs K θ H xs ds) (h : Qh (.tup ds) A) (hp : H p = none) : Q (.ref p) (upd H p (.tup xs)) :=
  k θ _ A _ (.tup ds) (.new0 hp) (ra.new0 hp) (.tup (SqT.of upd_same) (r.stab0 (stab_new hp))) h
/-- a list that stands in θ is written -/
theorem RA.putL {i : Nat} {a : Addr} {ds' : List D} {ys : List V} (ra : RA K θ H A) (ha : θ[i]? = some a) (ho : A[i]? = some (.lst ds)) (r : RDs K θ H ys ds') : RA K θ (upd H a (.lst ys)) (A.set i (.lst ds')) ∧ Ext θ H θ (upd H a (.lst ys)) ∧ Put A i (.lst ds') (A.set i (.lst ds')) := by
  obtain ⟨xs, h, _⟩ := ra.ok i a _ ha ho
  have mu : Mut (H a) := by rw [h]; exact True.intro
  exact ⟨ra.put ha ho mu ⟨ys, upd_same, r.stab0 (stab_put mu)⟩, .put (List.mem_of_getElem? ha) mu, (List.getElem?_eq_some_iff.mp ho).1, rfl⟩
end
/-! ### names, constants -/
def getS (σ : SH) (i : Nat) (k : D → Prop) : Prop := match σ[i]? with | some (some d) => k d | _ => False
def hVar (i : Nat) : TEh := fun σ A Q => getS σ i fun d => Q d A
def hC (d : D) : TEh := fun _ A Q => Q d A
section
variable {X : Cx} {e a b c : Expr} {es : List Expr} {x : Str} {pos p p2 : Pos}
theorem getS_ok {K : PySem.W.Frag} {θ : List Addr} {H : Hp} {σ : L2.St} {σh : SH} {i : Nat} {k : D → Prop} (rs : RS K θ H σ σh) (h : getS σh i k) : ∃ v d, σ[i]? = some (some v) ∧ RD K θ H v d ∧ k d := by
  unfold getS at h
  split at h
  · rename_i d e
    obtain ⟨v, h1, h2⟩ := rs.get e
    exact ⟨v, d, h1, h2, h⟩
  · exact h.elim
theorem ph_var {i : Nat} (h : PE X (.Name x pos) (tVar i)) : PE X (.Name x pos) (lift X.K (hVar i)) := h.imp fun σ H Q ⟨θ, σh, A, Qh, rs, ra, w, k⟩ => by
  obtain ⟨v, d, h1, h2, h3⟩ := getS_ok rs w
  exact ⟨v, h1, k.here ra h2 h3⟩
theorem ph_c {v : V} (h : PE X e (tC v)) : PE X e (lift X.K (hC (.v v))) := h.imp fun σ H Q ⟨θ, σh, A, Qh, rs, ra, w, k⟩ => k.here ra (.v v) w
/-! ### argument lists, tuples, lists -/
def hNil : TAh := fun _ A Q => Q [] A
def hCons (t : TEh) (u : TAh) : TAh := fun σ A Q => t σ A fun d A1 => u σ A1 fun ds A2 => Q (d :: ds) A2
theorem pah_nil : PA X [] (liftA X.K hNil) := pa_nil.imp fun σ H Q ⟨θ, σh, A, Qh, rs, ra, w, k⟩ => k _ _ _ _ _ (.refl _ _) ra .nil w
theorem pah_cons {t : TEh} {u : TAh} (ha : PE X e (lift X.K t)) (hr : PA X es (liftA X.K u)) (hs : starEach (e :: es) X.env = (false, eval e X.env) :: starEach es X.env := by rfl) : PA X (e :: es) (liftA X.K (hCons t u)) :=
  (pa_cons ha hr hs).imp fun σ H Q ⟨θ, σh, A, Qh, rs, ra, w, k⟩ => ⟨θ, σh, A, _, rs, ra, w, fun θ1 H1 A1 v d e1 ra1 r1 w1 => ⟨θ1, σh, A1, _, rs.ext e1, ra1, w1, fun θ2 H2 A2 vs ds e2 ra2 r2 w2 =>
    k _ _ _ _ _ (e1.trans e2) ra2 (.cons (r1.ext e2) r2) w2⟩⟩
/-- few enough -/
def few (n : Nat) (p : Prop) : Prop := match Nat.ble n 100000 with | true => p | false => False
theorem few_ok {n : Nat} {p : Prop} (h : few n p) : n ≤ sizeLine ∧ p := by
  unfold few at h
  split at h
  · rename_i e
    have := Nat.le_of_ble_eq_true e
    have ez : sizeLine = 16777216 := sizeLine_eq
    exact ⟨by omega, h⟩
  · exact h.elim
theorem few_of {n : Nat} {p : Prop} (h : n ≤ 100000) (q : p) : few n p := by
  unfold few
  rw [Nat.ble_eq_true_of_le h]
  exact q
def hTup (t : TAh) : TEh := fun σ A Q => t σ A fun ds A1 => few ds.length (Q (.tup ds) A1)
def hLst (t : TAh) : TEh := fun σ A Q => t σ A fun ds A1 => few ds.length (NewQ A1 (.lst ds) Q)
theorem ph_tup {x1} {t : TAh} (h : PA X es (liftA X.K t)) : PE X (.Tuple es x1 pos) (lift X.K (hTup t)) :=
  (pe_tup h).imp fun σ H Q ⟨θ, σh, A, Qh, rs, ra, w, k⟩ => ⟨θ, σh, A, _, rs, ra, w, fun θ1 H1 A1 vs ds e1 ra1 r1 w1 => by
    obtain ⟨z, w1⟩ := few_ok w1
    exact ⟨by rw [r1.length]; exact z, fun p hp => (k.ext e1).tup ra1 r1 w1 hp⟩⟩
theorem ph_lst {t : TAh} (h : PA X es (liftA X.K t)) : PE X (.List es pos) (lift X.K (hLst t)) :=
  (pe_lst h).imp fun σ H Q ⟨θ, σh, A, Qh, rs, ra, w, k⟩ => ⟨θ, σh, A, _, rs, ra, w, fun θ1 H1 A1 vs ds e1 ra1 r1 w1 => by
    obtain ⟨z, w1⟩ := few_ok w1
    exact ⟨by rw [r1.length]; exact z, fun p hp => (k.ext e1).lst ra1 r1 w1 hp⟩⟩
/-! ### two-place operations -/
abbrev R2h := D → D → OH → KH → Prop
def hOp (r : R2h) (ta tb : TEh) : TEh := fun σ A Q => ta σ A fun x A1 => tb σ A1 fun y A2 => r x y A2 Q
def LR (K : PySem.W.Frag) (r : R2) (rh : R2h) : Prop := ∀ θ H A x y d e Q Qh, RD K θ H x d → RD K θ H y e → RA K θ H A → rh d e A Qh → Kt K θ H Q Qh → r x y H Q
theorem lift_op {K : PySem.W.Frag} {r : R2} {rh : R2h} {ta tb : TEh} (l : LR K r rh) (σ : L2.St) (H : Hp) (Q : VK) : lift K (hOp rh ta tb) σ H Q → tOp r (lift K ta) (lift K tb) σ H Q :=
  fun ⟨θ, σh, A, Qh, rs, ra, w, k⟩ => ⟨θ, σh, A, _, rs, ra, w, fun θ1 H1 A1 x d e1 ra1 r1 w1 => ⟨θ1, σh, A1, _, rs.ext e1, ra1, w1, fun θ2 H2 A2 y e e2 ra2 r2 w2 =>
    l _ _ _ _ _ _ _ _ _ (r1.ext e2) r2 ra2 w2 ((k.ext e1).ext e2)⟩⟩
theorem ph_op {op : Operator} {r : R2} {rh : R2h} {ta tb : TEh} (l : LR X.K r rh) (ho : OpR X (binaryOp op) r) (ha : PE X a (lift X.K ta)) (hb : PE X b (lift X.K tb)) : PE X (.BinOp a op b pos) (lift X.K (hOp rh ta tb)) :=
  (pe_op ho ha hb).imp (lift_op l)
theorem ph_cmp {op : CmpOp} {r : R2} {rh : R2h} {ta tb : TEh} (l : LR X.K r rh) (ho : OpR X (compareOp op) r) (ha : PE X a (lift X.K ta)) (hb : PE X b (lift X.K tb)) (hm : behindInMarks op b = false) : PE X (.Compare a [op] [b] pos) (lift X.K (hOp rh ta tb)) :=
  (pe_cmpR ho ha hb hm).imp (lift_op l)
theorem ph_ix {r : R2} {rh : R2h} {ta tb : TEh} (l : LR X.K r rh) (hr : IxR X r) (ha : PE X a (lift X.K ta)) (hb : PE X b (lift X.K tb)) (hs : PlainIx b) : PE X (.Subscript a b pos) (lift X.K (hOp rh ta tb)) :=
  (pe_ix hr ha hb hs).imp (lift_op l)
theorem LR.or {K : PySem.W.Frag} {r r' : R2} {rh : R2h} (h : ∀ θ H A x y d e Q Qh, RD K θ H x d → RD K θ H y e → RA K θ H A → rh d e A Qh → Kt K θ H Q Qh → r x y H Q ∨ r' x y H Q) : LR K (fun x y H Q => r x y H Q ∨ r' x y H Q) rh := h
/-- + of whole numbers, texts, tuples, lists -/
def hAdd : R2h
  | .v (.int i), .v (.int j), A, Q => Q (.v (.int (i + j))) A
  | .v (.str x), .v (.str y), A, Q => x.length + y.length ≤ sizeLine ∧ Q (.v (.str (x ++ y))) A
  | .tup ds, .tup es, A, Q => ds.length + es.length ≤ sizeLine ∧ Q (.tup (ds ++ es)) A
  | .ptr i, .ptr j, A, Q => ∃ ds es, A[i]? = some (.lst ds) ∧ A[j]? = some (.lst es) ∧ ds.length + es.length ≤ sizeLine ∧ NewQ A (.lst (ds ++ es)) Q
  | _, _, _, _ => False
def rAddA (K : PySem.W.Frag) : R2 := fun x y H Q => rI0 (fun i j => .int (i + j)) x y H Q ∨ (∃ i j, x = .str i ∧ y = .str j ∧ i.length + j.length ≤ sizeLine ∧ Q (.str (i ++ j)) H) ∨ rCatA K x y H Q ∨ rCat x y H Q
theorem op_addA : OpR X (binaryOp .Add) (rAddA X.K) := op_add.or (op_add_str.or (op_catA.or op_cat))
theorem l_add {K : PySem.W.Frag} : LR K (rAddA K) hAdd := by
  intro θ H A x y d e Q Qh rd re ra w k
  unfold hAdd at w
  split at w
  · cases rd; cases re; exact .inl ⟨_, _, rfl, rfl, k.here ra (.v _) w⟩
  · cases rd; cases re; exact .inr (.inl ⟨_, _, rfl, rfl, w.1, k.here ra (.v _) w.2⟩)
  · cases rd with
    | @tup a xs ds h r =>
      cases re with
      | @tup b ys es h' r' =>
        refine .inr (.inr (.inl ⟨a, b, xs, ys, rfl, rfl, h, h', by rw [r.length, r'.length]; exact w.1, fun e => ?_, fun _ e => ?_, fun _ _ p hp => k.tup ra (r.append r') w.2 hp⟩))
        · subst e
          cases r
          exact k.here ra (.tup h' r') w.2
        · subst e
          cases r'
          rw [List.append_nil] at w
          exact k.here ra (.tup h r) w.2
  · obtain ⟨ds, es, h1, h2, hz, q⟩ := w
    cases rd with
    | ptr hi =>
      cases re with
      | ptr hj =>
        obtain ⟨xs, g1, r1⟩ := ra.ok _ _ _ hi h1
        obtain ⟨ys, g2, r2⟩ := ra.ok _ _ _ hj h2
        exact .inr (.inr (.inr ⟨_, _, xs, ys, rfl, rfl, g1, g2, by rw [r1.length, r2.length]; exact hz, fun p hp => k.lst ra (r1.append r2) q hp⟩))
  · exact w.elim
def hSub : R2h
  | .v (.int i), .v (.int j), A, Q => Q (.v (.int (i - j))) A
  | _, _, _, _ => False
theorem l_sub {K : PySem.W.Frag} : LR K (rI0 fun i j => .int (i - j)) hSub := by
  intro θ H A x y d e Q Qh rd re ra w k
  unfold hSub at w
  split at w
  · cases rd; cases re; exact ⟨_, _, rfl, rfl, k.here ra (.v _) w⟩
  · exact w.elim
/-- * of whole numbers (one of them small), of a list by a number -/
def hMul : R2h
  | .v (.int i), .v (.int j), A, Q => CMul i j ∧ Q (.v (.int (i * j))) A
  | .ptr i, .v (.int k), A, Q => ∃ ds, A[i]? = some (.lst ds) ∧ -(2 ^ 63) ≤ k ∧ k < 2 ^ 63 ∧ ds.length * k.toNat ≤ sizeLine ∧ NewQ A (.lst (List.replicate k.toNat ds).flatten) Q
  | _, _, _, _ => False
def rMulA : R2 := fun x y H Q => rI CMul (fun i j => .int (i * j)) x y H Q ∨ rRep x y H Q
theorem op_mulA : OpR X (binaryOp .Mult) rMulA := op_mul.or op_rep
theorem l_mul {K : PySem.W.Frag} : LR K rMulA hMul := by
  intro θ H A x y d e Q Qh rd re ra w k
  unfold hMul at w
  split at w
  · cases rd; cases re; exact .inl ⟨_, _, rfl, rfl, w.1, k.here ra (.v _) w.2⟩
  · obtain ⟨ds, h1, h2, h3, h4, q⟩ := w
    cases rd with
    | ptr hi =>
      cases re
      obtain ⟨xs, g1, r1⟩ := ra.ok _ _ _ hi h1
      exact .inr ⟨_, _, xs, rfl, rfl, g1, h2, h3, by rw [r1.length]; exact h4, fun p hp => k.lst ra (r1.replicate _) q hp⟩
  · exact w.elim
def hMod : R2h
  | .v (.int i), .v (.int j), A, Q => 0 < j ∧ Q (.v (.int (i % j))) A
  | _, _, _, _ => False
theorem l_mod {K : PySem.W.Frag} : LR K (rI (fun _ j => 0 < j) fun i j => .int (i % j)) hMod := by
  intro θ H A x y d e Q Qh rd re ra w k
  unfold hMod at w
  split at w
  · cases rd; cases re; exact ⟨_, _, rfl, rfl, w.1, k.here ra (.v _) w.2⟩
  · exact w.elim
def hDiv : R2h
  | .v (.int i), .v (.int j), A, Q => CDiv i j ∧ Q (.v (.int (i / j))) A
  | _, _, _, _ => False
theorem l_div {K : PySem.W.Frag} : LR K (rI CDiv fun i j => .int (i / j)) hDiv := by
  intro θ H A x y d e Q Qh rd re ra w k
  unfold hDiv at w
  split at w
  · cases rd; cases re; exact ⟨_, _, rfl, rfl, w.1, k.here ra (.v _) w.2⟩
  · exact w.elim
def hPow : R2h
  | .v (.int i), .v (.int j), A, Q => CPow i j ∧ Q (.v (.int (i ^ j.toNat))) A
  | _, _, _, _ => False
theorem l_pow {K : PySem.W.Frag} : LR K (rI CPow fun i j => .int (i ^ j.toNat)) hPow := by
  intro θ H A x y d e Q Qh rd re ra w k
  unfold hPow at w
  split at w
  · cases rd; cases re; exact ⟨_, _, rfl, rfl, w.1, k.here ra (.v _) w.2⟩
  · exact w.elim
/-- <, <=, >, >= of whole numbers -/
def hI (f : Int → Int → Bool) : R2h
  | .v (.int i), .v (.int j), A, Q => Q (.v (.bl (f i j))) A
  | _, _, _, _ => False
theorem l_cmpI {K : PySem.W.Frag} {f : Int → Int → Bool} : LR K (rI0 fun i j => .bl (f i j)) (hI f) := by
  intro θ H A x y d e Q Qh rd re ra w k
  unfold hI at w
  split at w
  · cases rd; cases re; exact ⟨_, _, rfl, rfl, k.here ra (.v _) w⟩
  · exact w.elim
/-! ### a[i] -/
def hIx : R2h
  | .tup ds, .v (.int i), A, Q => ∃ d, atI ds i = some d ∧ Q d A
  | .ptr k, .v (.int i), A, Q => ∃ ds, A[k]? = some (.lst ds) ∧ ∃ d, atI ds i = some d ∧ Q d A
  | .scr ns, .v (.int i), A, Q => ∃ n, atI ns i = some n ∧ Q (.v (.int n)) A
  | _, _, _, _ => False
theorem RDs.atI {K : PySem.W.Frag} {θ : List Addr} {H : Hp} {vs : List V} {ds : List D} {i : Int} {d : D} (r : RDs K θ H vs ds) (h : atI ds i = some d) : ∃ v, L2.atI vs i = some v ∧ RD K θ H v d := by
  unfold L2.atI at h ⊢
  rw [r.length]
  cases e : ixN ds.length i with
  | none => rw [e] at h; cases h
  | some j =>
    rw [e] at h
    exact r.get h
theorem l_ix {K : PySem.W.Frag} : LR K (rIx K) hIx := by
  intro θ H A x y d e Q Qh rd re ra w k
  unfold hIx at w
  split at w
  · obtain ⟨d, h, q⟩ := w
    cases re
    cases rd with
    | tup hs r =>
      obtain ⟨v, h1, h2⟩ := r.atI h
      exact .inr (.inl ⟨_, _, _, v, rfl, rfl, hs, h1, k.here ra h2 q⟩)
  · obtain ⟨ds, h0, d, h, q⟩ := w
    cases re
    cases rd with
    | ptr hi =>
      obtain ⟨xs, g, r⟩ := ra.ok _ _ _ hi h0
      obtain ⟨v, h1, h2⟩ := r.atI h
      exact .inl ⟨_, _, _, v, rfl, rfl, SqL.of g, h1, k.here ra h2 q⟩
  · obtain ⟨n, h, q⟩ := w
    rename_i ns i
    cases re
    cases rd with
    | @scr a _ hs =>
      have r : RDs K θ H (ns.map V.int) (ns.map fun x => D.v (.int x)) := RDs.scal V.int ns
      obtain ⟨v, h1, h2⟩ := r.atI (i := _) (d := .v (.int n)) (by
        unfold L2.atI at h ⊢
        rw [List.length_map]
        cases e : ixN ns.length _ with
        | none => rw [e] at h; cases h
        | some j =>
          rw [e] at h
          show (ns.map _)[j]? = _
          rw [List.getElem?_map]
          rw [show ns[j]? = some n from h]
          rfl)
      exact .inl ⟨_, _, _, v, rfl, rfl, hs.l, h1, k.here ra h2 q⟩
  · exact w.elim
/-! ### slices -/
def cutD (xs : List D) (lo hi : Option Int) : List D := (xs.drop (HT.sIx xs.length 0 lo)).take (HT.sIx xs.length xs.length hi - HT.sIx xs.length 0 lo)
def cutI (xs : List Int) (lo hi : Option Int) : List Int := (xs.drop (HT.sIx xs.length 0 lo)).take (HT.sIx xs.length xs.length hi - HT.sIx xs.length 0 lo)
def hCut : D → Option Int → Option Int → OH → KH → Prop
  | .tup ds, lo, hi, A, Q => Q (.tup (cutD ds lo hi)) A
  | .ptr k, lo, hi, A, Q => ∃ ds, A[k]? = some (.lst ds) ∧ NewQ A (.lst (cutD ds lo hi)) Q
  | .scr ns, lo, hi, A, Q => NewQ A (.lst ((cutI ns lo hi).map fun n => .v (.int n))) Q
  | _, _, _, _, _ => False
def hSl (te : TEh) (tl th : TOh) : TEh := fun σ A Q => te σ A fun x A1 => tl σ A1 fun l A2 => th σ A2 fun u A3 => hCut x l u A3 Q
def hPart (t : TEh) : TOh := fun σ A Q => t σ A fun d A1 => match d with | .v (.int i) => Q (some i) A1 | _ => False
def hNoPart : TOh := fun _ A Q => Q none A
theorem poh_none : PO X none (liftO X.K hNoPart) := po_none.imp fun σ H Q ⟨θ, σh, A, Qh, rs, ra, w, k⟩ => k _ _ _ _ (.refl _ _) ra w
theorem poh_some {t : TEh} (h : PE X e (lift X.K t)) : PO X (some e) (liftO X.K (hPart t)) := (po_some h).imp fun σ H Q ⟨θ, σh, A, Qh, rs, ra, w, k⟩ =>
  ⟨θ, σh, A, _, rs, ra, w, fun θ1 H1 A1 v d e1 ra1 r1 w1 => by
    split at w1
    · cases r1; exact ⟨_, rfl, k _ _ _ _ e1 ra1 w1⟩
    · exact w1.elim⟩
theorem RDs.cut {K : PySem.W.Frag} {θ : List Addr} {H : Hp} {vs : List V} {ds : List D} {lo hi : Option Int} (r : RDs K θ H vs ds) : RDs K θ H (cutV vs lo hi) (cutD ds lo hi) := by
  unfold cutV cutD
  rw [r.length]
  exact (r.drop _).take _
theorem RDs.cut_whole {K : PySem.W.Frag} {θ : List Addr} {H : Hp} {xs : List V} {ds : List D} {lo hi : Option Int} (r : RDs K θ H xs ds) (z : HT.sIx xs.length 0 lo = 0 ∧ HT.sIx xs.length xs.length hi = xs.length) : cutD ds lo hi = ds := by
  unfold cutD
  rw [← r.length, z.1, z.2, Nat.sub_zero, List.drop_zero, r.length, List.take_length]
theorem cut_ints (ns : List Int) (l u : Option Int) : cutV (ns.map V.int) l u = (cutI ns l u).map V.int := by
  unfold cutV cutI
  rw [List.length_map, List.map_take, List.map_drop]
theorem sl_any : SlR X (fun x lo hi H Q => rSlL X.K x lo hi H Q ∨ rSlA X.K x lo hi H Q) := sl_list.or sl_tupA
theorem ph_slice {lo hi : Option Expr} {te : TEh} {tl th : TOh} (he : PE X e (lift X.K te)) (hl : PO X lo (liftO X.K tl)) (hu : PO X hi (liftO X.K th)) : PE X (.Subscript e (.Slice lo hi none p2) pos) (lift X.K (hSl te tl th)) :=
  (pe_slice sl_any he hl hu).imp fun σ H Q ⟨θ, σh, A, Qh, rs, ra, w, k⟩ => ⟨θ, σh, A, _, rs, ra, w, fun θ1 H1 A1 v d e1 ra1 r1 w1 => ⟨θ1, σh, A1, _, rs.ext e1, ra1, w1, fun θ2 H2 A2 l e2 ra2 w2 =>
    ⟨θ2, σh, A2, _, (rs.ext e1).ext e2, ra2, w2, fun θ3 H3 A3 u e3 ra3 w3 => by
      have r3 := (r1.ext e2).ext e3
      have k3 := ((k.ext e1).ext e2).ext e3
      unfold hCut at w3
      split at w3
      · cases r3 with
        | @tup a xs ds hs r =>
          refine .inr ⟨_, xs, rfl, hs, fun z => ?_, fun _ p hp => k3.tup ra3 r.cut w3 hp⟩
          rw [r.cut_whole z] at w3
          exact k3.here ra3 (.tup hs r) w3
      · obtain ⟨ds, h0, q⟩ := w3
        cases r3 with
        | ptr hi =>
          obtain ⟨xs, g, r⟩ := ra3.ok _ _ _ hi h0
          exact .inl ⟨_, xs, rfl, SqL.of g, fun p hp => k3.lst ra3 r.cut q hp⟩
      · cases r3 with
        | @scr a ns hs =>
          refine .inl ⟨_, _, rfl, hs.l, fun p hp => k3.lst ra3 ?_ w3 hp⟩
          rw [cut_ints]
          exact RDs.scal V.int _
      · exact w3.elim⟩⟩⟩
end
end Rp

namespace Rp
open PySem PySem.Spec PyProof.Rows L2
/-! ### a def whose promise wants that nothing is being shown (repr) around it -/
structure FnG (P : Program) (w : World) (K : PySem.W.Frag) (mg : Str → Option Value) (base : Heap) (CX : CXT) (k : Nat) (f : Addr) (fd : FuncData) (ps : List Str) (sp : Sp) : Prop where
  len : ∀ vs H Q E, sp vs H Q E → vs.length = ps.length
  go : ∀ (A : Around) (outer : List Env) (s : Shared) (H : Hp) (args : Args) (us : List Value) (vs : List V) (Q : VK) (E : XK), A.guards = some [] → Room k A → Env0 P w K mg base A outer s H →
    BindsTo s fd args (ps.zip us) → Vals vs us → sp vs H Q E → codeAny (model P w) A (.call (.ref f) args) (CR CX outer P w H s Q E) s
theorem FnG.of {P : Program} {w : World} {K : PySem.W.Frag} {mg : Str → Option Value} {base : Heap} {CX : CXT} {k : Nat} {f : Addr} {fd : FuncData} {ps : List Str} {sp : Sp} (F : FnOk P w K mg base CX k f fd ps sp) : FnG P w K mg base CX k f fd ps sp :=
  ⟨F.len, fun A outer s H args us vs Q E _ => F.run A outer s H args us vs Q E⟩
theorem deeper_guards {A : Around} {env : Env} (h : A.guards = some []) : (A.deeper env).guards = some [] := h
section
variable {P : Program} {w : World} {K : PySem.W.Frag} {mg : Str → Option Value} {base : Heap} {CX : CXT}
/-- a def by its body, the guards known -/
theorem fnG_of {x qual : Str} {st : Stmt} {f : Addr} {fd : FuncData} {N ps : List Str} {k : Nat} {sp : Sp} (F : Fun K x qual st f fd) (S : FnScope N ps (defScope st)) (len : ∀ vs H Q E, sp vs H Q E → vs.length = ps.length)
    (hb : ∀ (cdv : Value) (A : Around) (outer : List Env) (s : Shared) (H : Hp) (vs : List V) (Q : VK) (E : XK), (A.deeper (envOfC qual (defScope st) s.heap.objs.size f cdv)).guards = some [] → Room k (A.deeper (envOfC qual (defScope st) s.heap.objs.size f cdv)) → sp vs H Q E →
      ∃ t, PSs (cxOf CX P w K mg base N qual (defScope st) f cdv A outer s H E) (defBody st) t ∧ t { nx := fun _ H' => Q .non H', rt := Q } (start N vs) H) : FnG P w K mg base CX (k + 1) f fd ps sp := by
  obtain ⟨oc, od, kV, doc, pm, an, cdv, ct, osl, rfl, lk, hcd⟩ := F.ex
  refine ⟨len, fun A outer s H args us vs Q E gA room en bi rel want => ?_⟩
  have kept : ∀ b o, base.get? b = some o → s.heap.get? b = some o := fun b o e => (en.bs b o e).1
  have inK : K.In s.heap := en.mod.kin.keeps kept
  refine codeAny_call_function room.depth (inK _ _ lk) rfl S.co S.gen rfl (PySem.W.codeRec_of inK hcd) (bi _ _ _ _ ?_)
  refine wpAny_newFunctionEnv_cells S.kind (fun y hy => ?_) fun env he s1 made => ?_
  · rcases S.par y.1 (List.of_mem_zip (show (y.1, y.2) ∈ ps.zip us from hy)).1 with q | q
    · exact .inl q
    · exact .inr ⟨q, PySem.W.cellsFrom_some _ _ _ (.inl q)⟩
  subst he
  refine ⟨(en.mod.nolimit.keeps kept).keeps made.toInCall.keep, codeAny_func ?_⟩
  obtain ⟨t, body, reads⟩ := hb cdv A outer s H vs Q E (deeper_guards gA) (room.deeper _) want
  refine wpAny_mono (body.run [] s1 (start N vs) H _ (inv_start S room.hd en (len _ _ _ _ want) rel made) reads) (fun fl s' hs => ?_) fun e s' hs => hs
  cases fl with
  | ret u =>
    obtain ⟨v, σ', H', J, rv, q⟩ := hs
    exact ⟨v, H', J.os, J.bare, J.base, J.hok, rv, q⟩
  | next =>
    obtain ⟨σ', H', J, q⟩ := hs
    exact ⟨V.non, H', J.os, J.bare, J.base, J.hok, rfl, q⟩
  | brk => exact absurd hs (fun ⟨_, _, _, z⟩ => (z : False))
  | cont => exact absurd hs (fun ⟨_, _, _, z⟩ => (z : False))
/-- .. that lets no error out -/
theorem okG {x qual : Str} {st : Stmt} {f : Addr} {fd : FuncData} {N ps : List Str} {k : Nat} {sp : Sp} (F : Fun K x qual st f fd) (S : FnScope N ps (defScope st)) (len : ∀ vs H Q E, sp vs H Q E → vs.length = ps.length)
    (hb : ∀ (cdv : Value) (A : Around) (outer : List Env) (s : Shared) (H : Hp) (vs : List V) (Q : VK) (E : XK), (A.deeper (envOfC qual (defScope st) s.heap.objs.size f cdv)).guards = some [] → Room k (A.deeper (envOfC qual (defScope st) s.heap.objs.size f cdv)) → sp vs H Q E →
      ∃ t, PSs (cxOf CX P w K mg base N qual (defScope st) f cdv A outer s H E).nox (defBody st) t ∧ t { nx := fun _ H' => Q .non H', rt := Q } (start N vs) H) : FnG P w K mg base CX (k + 1) f fd ps sp :=
  fnG_of F S len fun cdv A outer s H vs Q E gA room want => let ⟨t, body, reads⟩ := hb cdv A outer s H vs Q E gA room want; ⟨t, body.nox, reads⟩
end
section
variable {X : Cx} {CX : CXT} {k : Nat} {f C : Addr} {fd : FuncData} {ps : List Str} {sp : Sp} {E : XK} {x m : Str} {p pos apos : Pos} {e o : Expr} {es : List Expr} {ta : TE} {t : TA}
theorem runG {pins : List (Addr × Obj)} {σ : L2.St} {H : Hp} {s : Shared} {Q : VK} {us : List Value} {vs : List V} (F : FnG X.prog X.w X.K X.mg X.base CX k f fd ps sp) (gA : X.A.guards = some []) (room : Room k X.A) (hb : L2.Binds X.K fd ps [])
    (hx : Passes CX X E) (I : Inv X pins σ H s) (r : Vals vs us) (h : sp vs H Q E) : wpAny (model X.prog X.w) X.A (call (.ref f) us) (EP X pins σ Q) X.xe s := by
  have hl : (us ++ []).length = ps.length := by rw [List.append_nil, ← r.length]; exact F.len _ _ _ _ h
  have bi := hb s us I.kIn hl
  rw [List.append_nil] at bi
  refine wpAny_call (codeAny_mono (F.go X.A X.stack s H ⟨us, []⟩ us vs Q E gA room I.env0 bi r h) fun res s' hq => ?_)
  cases res with
  | error e => exact hx pins σ H s e s' I hq
  | ok fl =>
    cases fl with
    | ret u => exact I.after hq
    | next => exact hq.elim
    | brk => exact hq.elim
    | cont => exact hq.elim
def tCallG (sp : Sp) (E : XK) (t : TA) : TE := fun σ H Q => t σ H fun vs H1 => sp vs H1 Q E
theorem pe_callG (F : FnG X.prog X.w X.K X.mg X.base CX k f fd ps sp) (gA : X.A.guards = some []) (room : Room k X.A) (hg : Gl X x) (hm : X.mg x = some (.ref f)) (hk : PySem.W.keepIn X.K (.ref f) = true) (hb : L2.Binds X.K fd ps [])
    (hx : Passes CX X E) (ha : PA X (e :: es) t) (hdb : (x == ("__debug__" : Str)) = false := by decide) (hst : starEach (e :: es) X.env = (false, eval e X.env) :: starEach es X.env := by rfl)
    (hpl : (backTo pos (starEach es X.env)).any (·.1) = false := by rfl) : PE X (.Call (.Name x p) (e :: es) [] pos) (tCallG sp E t) :=
  ⟨fun pins s σ H Q I h => wpAny_Call_Name_kw (ld_glob I hg hm (PySem.W.callWith_K (h₀ := X.base) I.ok.mod.kin hk (thn (ha.run pos pins s σ H _ I h) fun us s1 ⟨vs, H1, I1, r, q⟩ => ⟨I1.kIn, runG F gA room hb hx I1 r q⟩) hst hpl) hdb)⟩
end
/-! ### repr of data -/
/-- what may be shown -/
structure Shw (d : PyData) : Prop where
  sh : d.showable = true
  nd : d.hasDict = false
  dp : d.depth ≤ 16
  sz : d.shown.length ≤ sizeLine
section
variable {X : Cx}
theorem call_reprD (gA : X.A.guards = some []) (hu : X.A.units + 64 < cLine) : CallR X (.builtin "repr") (fun xs H Q => ∃ x d, xs = [x] ∧ Dp X.K H x d ∧ Shw d ∧ Q (.str d.shown) H) := by
  intro pins s σ H xs us Q I r h
  obtain ⟨x, d, rfl, hd, hw, q⟩ := h
  cases r with
  | cons rx rn =>
    cases rn
    have dp := hw.dp
    cases hd with
    | non => cases rx; exact PySem.P.repr_of_none ⟨.str _, H, I.tok _, ⟨_, rfl⟩, q⟩
    | bl b => cases rx; exact PySem.P.repr_of_bool ⟨.str _, H, I.tok _, ⟨_, rfl⟩, q⟩
    | int i =>
      obtain ⟨t, rfl⟩ := rx
      exact PySem.P.repr_of_int (by have := hw.sh; simpa [PyData.showable] using this) ⟨.str _, H, I.tok _, ⟨_, rfl⟩, q⟩
    | str z =>
      obtain ⟨t, rfl⟩ := rx
      exact PySem.P.repr_of_str ⟨.str _, H, I.tok _, ⟨_, rfl⟩, q⟩ hw.sz
    | @lst a xs ds h1 h2 =>
      obtain ⟨as, rd⟩ := Dp.reads I (.list ds) (.ref a) _ (.lst h1 h2) rx
      cases rx
      exact repr_of_reads' rd hw.sh (PyData.noDict_hsm hw.nd) gA (by omega) (fun _ _ z => z) (fun h' u tk kp => ⟨.str _, H, I.kept kp, ⟨_, rfl⟩, q⟩) hw.sz
    | @tup a xs ds h1 h2 =>
      obtain ⟨as, rd⟩ := Dp.reads I (.tuple ds) (.ref a) _ (.tup h1 h2) rx
      cases rx
      exact repr_of_reads' rd hw.sh (PyData.noDict_hsm hw.nd) gA (by omega) (fun _ _ z => z) (fun h' u tk kp => ⟨.str _, H, I.kept kp, ⟨_, rfl⟩, q⟩) hw.sz
end
end Rp

/-! Tests, statements, loops, comprehensions over data. -/
namespace Rp
open PySem PySem.Spec PyProof.Rows L2
/-- both ways of a test -/
structure Br (b : Bool) (p q : Prop) : Prop where
  yes : b = true → p
  no : b = false → q
theorem Br.t {p q : Prop} (h : p) : Br true p q := ⟨fun _ => h, fun z => Bool.noConfusion z⟩
theorem Br.f {p q : Prop} (h : q) : Br false p q := ⟨fun z => Bool.noConfusion z, fun _ => h⟩
theorem Br.d {c : Prop} [Decidable c] {p q : Prop} (h : c → p) (h' : ¬ c → q) : Br (decide c) p q := ⟨fun e => h (of_decide_eq_true e), fun e => h' (of_decide_eq_false e)⟩
theorem Br.n {c : Prop} [Decidable c] {p q : Prop} (h : ¬ c → p) (h' : c → q) : Br (!decide c) p q := ⟨fun e => h (by simpa using e), fun e => h' (by simpa using e)⟩
theorem Br.ite {b : Bool} {p q : Prop} (h : Br b p q) : if b = true then p else q := by
  cases b with
  | true => exact h.yes rfl
  | false => exact h.no rfl
section
variable {X : Cx} {e a b c : Expr} {es : List Expr} {x : Str} {pos p p2 : Pos}
/-- a value's truth -/
def hTru : D → OH → (Bool → OH → Prop) → Prop
  | .v .non, A, Q => Q false A
  | .v (.bl b), A, Q => Q b A
  | .v (.int i), A, Q => Q (i != 0) A
  | .v (.str y), A, Q => y.length ≤ sizeLine ∧ Q ((y.length : Int) != 0) A
  | .tup ds, A, Q => Q (!ds.isEmpty) A
  | .ptr k, A, Q => (∃ ds, A[k]? = some (.lst ds) ∧ Q (!ds.isEmpty) A) ∨ ∃ kvs, A[k]? = some (.dK kvs) ∧ Q (!kvs.isEmpty) A
  | .scr ns, A, Q => Q (!ns.isEmpty) A
  | _, _, _ => False
theorem RDs.isEmpty {K : PySem.W.Frag} {θ : List Addr} {H : Hp} {xs : List V} {ds : List D} (r : RDs K θ H xs ds) : (!xs.isEmpty) = !ds.isEmpty := by cases r <;> rfl
theorem RF.isEmpty {κ : Type} {K : PySem.W.Frag} {θ : List Addr} {H : Hp} {xs : List (κ × V)} {ds : List (κ × D)} (r : RF K θ H xs ds) : (!xs.isEmpty) = !ds.isEmpty := by cases r <;> rfl
def hTv (t : TEh) : TTh := fun σ A Q => t σ A fun d A1 => hTru d A1 Q
theorem pth_val {t : TEh} (h : PE X a (lift X.K t)) (he : ∀ whole, isTrue a X.env whole = (do let v ← whole; standAt a.pos; holding [v] (truthy v)) := by intro _; rfl) : PT X a (liftT X.K (hTv t)) :=
  (pt_truth h he).imp fun σ H Q ⟨θ, σh, A, Qh, rs, ra, w, k⟩ => ⟨θ, σh, A, _, rs, ra, w, fun θ1 H1 A1 v d e1 ra1 r1 w1 => by
    unfold hTru at w1
    split at w1
    · cases r1; exact ⟨false, rfl, k _ _ _ _ e1 ra1 w1⟩
    · cases r1; exact ⟨_, rfl, k _ _ _ _ e1 ra1 w1⟩
    · cases r1; exact ⟨_, rfl, k _ _ _ _ e1 ra1 w1⟩
    · cases r1; exact ⟨_, ⟨w1.1, rfl⟩, k _ _ _ _ e1 ra1 w1.2⟩
    · cases r1 with
      | tup hs r => exact ⟨_, .inr (.inl ⟨_, hs, rfl⟩), k _ _ _ _ e1 ra1 (by rw [r.isEmpty]; exact w1)⟩
    · cases r1 with
      | ptr hi =>
        rcases w1 with ⟨ds, h0, q⟩ | ⟨kvs, h0, q⟩
        · obtain ⟨xs, g, r⟩ := ra1.ok _ _ _ hi h0
          exact ⟨_, .inl ⟨_, SqL.of g, rfl⟩, k _ _ _ _ e1 ra1 (by rw [r.isEmpty]; exact q)⟩
        · obtain ⟨xs, g, r⟩ := ra1.ok _ _ _ hi h0
          exact ⟨_, .inr (.inr ⟨_, g, rfl⟩), k _ _ _ _ e1 ra1 (by rw [r.isEmpty]; exact q)⟩
    · cases r1 with
      | scr hs => exact ⟨_, .inl ⟨_, hs.l, rfl⟩, k _ _ _ _ e1 ra1 (by rw [List.isEmpty_map]; exact w1)⟩
    · exact w1.elim⟩
def hTest (t : TEh) : TTh := fun σ A Q => t σ A fun d A1 => match d with | .v (.bl b) => Q b A1 | _ => False
theorem pth_cmp {op : CmpOp} {r : R2} {rh : R2h} {ta tb : TEh} (l : LR X.K r rh) (ho : OpR X (compareOp op) r) (ha : PE X a (lift X.K ta)) (hb : PE X b (lift X.K tb)) (hm : behindInMarks op b = false) : PT X (.Compare a [op] [b] pos) (liftT X.K (hTest (hOp rh ta tb))) :=
  (pt_cmpR ho ha hb hm).imp fun σ H Q ⟨θ, σh, A, Qh, rs, ra, w, k⟩ => lift_op l σ H _ ⟨θ, σh, A, _, rs, ra, w, fun θ1 H1 A1 v d e1 ra1 r1 w1 => by
    split at w1
    · cases r1; exact ⟨_, rfl, k _ _ _ _ e1 ra1 w1⟩
    · exact w1.elim⟩
/-- a op1 b op2 c of whole numbers -/
def hChain (r r' : R2h) (ta tb tc : TEh) : TEh := fun σ A Q => ta σ A fun x A1 => tb σ A1 fun y A2 => r x y A2 fun z A3 => match z with | .v (.bl k) => Br k (tc σ A3 fun w A4 => r' y w A4 Q) (Q (.v (.bl false)) A3) | _ => False
theorem lift_chain {K : PySem.W.Frag} {r r' : R2} {rh rh' : R2h} {ta tb tc : TEh} (l : LR K r rh) (l' : LR K r' rh') (σ : L2.St) (H : Hp) (Q : VK) : lift K (hChain rh rh' ta tb tc) σ H Q → tChain r r' (lift K ta) (lift K tb) (lift K tc) σ H Q :=
  fun ⟨θ, σh, A, Qh, rs, ra, w, k⟩ => ⟨θ, σh, A, _, rs, ra, w, fun θ1 H1 A1 x d e1 ra1 r1 w1 => ⟨θ1, σh, A1, _, rs.ext e1, ra1, w1, fun θ2 H2 A2 y e e2 ra2 r2 w2 =>
    l _ _ _ _ _ _ _ _ _ (r1.ext e2) r2 ra2 w2 fun θ3 H3 A3 z dz e3 ra3 r3 w3 => by
      split at w3
      · rename_i k'
        cases r3
        refine ⟨k', rfl, ?_⟩
        cases k' with
        | true => exact ⟨θ3, σh, A3, _, ((rs.ext e1).ext e2).ext e3, ra3, w3.yes rfl, fun θ4 H4 A4 u du e4 ra4 r4 w4 => l' _ _ _ _ _ _ _ _ _ ((r2.ext e3).ext e4) r4 ra4 w4 ((((k.ext e1).ext e2).ext e3).ext e4)⟩
        | false => exact (((k.ext e1).ext e2).ext e3).here ra3 (.v _) (w3.no rfl)
      · exact w3.elim⟩⟩
theorem ph_chain {op op' : CmpOp} {r r' : R2} {rh rh' : R2h} {ta tb tc : TEh} (l : LR X.K r rh) (l' : LR X.K r' rh') (ho : OpR X (compareOp op) r) (ho' : OpR X (compareOp op') r') (ha : PE X a (lift X.K ta)) (hb : PE X b (lift X.K tb)) (hc : PE X c (lift X.K tc))
    (hm : lastMarks [op, op'] [b, c] = false := by with_unfolding_all rfl) : PE X (.Compare a [op, op'] [b, c] pos) (lift X.K (hChain rh rh' ta tb tc)) := (pe_chain ho ho' ha hb hc hm).imp (lift_chain l l')
theorem pth_chain {op op' : CmpOp} {r r' : R2} {rh rh' : R2h} {ta tb tc : TEh} (l : LR X.K r rh) (l' : LR X.K r' rh') (ho : OpR X (compareOp op) r) (ho' : OpR X (compareOp op') r') (ha : PE X a (lift X.K ta)) (hb : PE X b (lift X.K tb)) (hc : PE X c (lift X.K tc))
    (hm : lastMarks [op, op'] [b, c] = false := by with_unfolding_all rfl) : PT X (.Compare a [op, op'] [b, c] pos) (liftT X.K (hTest (hChain rh rh' ta tb tc))) :=
  (pt_chain ho ho' ha hb hc hm).imp fun σ H Q ⟨θ, σh, A, Qh, rs, ra, w, k⟩ => lift_chain l l' σ H _ ⟨θ, σh, A, _, rs, ra, w, fun θ1 H1 A1 v d e1 ra1 r1 w1 => by
    split at w1
    · cases r1; exact ⟨_, rfl, k _ _ _ _ e1 ra1 w1⟩
    · exact w1.elim⟩
def hAnd (t u : TTh) : TTh := fun σ A Q => t σ A fun b A1 => Br b (u σ A1 Q) (Q false A1)
def hOr (t u : TTh) : TTh := fun σ A Q => t σ A fun b A1 => Br b (Q true A1) (u σ A1 Q)
def hNot (t : TTh) : TTh := fun σ A Q => t σ A fun b A1 => Q (!b) A1
variable {rest : List Expr}
theorem pwh_and1 {t : TTh} (ha : PT X a (liftT X.K t)) : PW X (.BoolOp .And [a] pos) (liftT X.K t) := pw_and1 ha
theorem pwh_or1 {t : TTh} (ha : PT X a (liftT X.K t)) : PW X (.BoolOp .Or [a] pos) (liftT X.K t) := pw_or1 ha
theorem pwh_and {t u : TTh} (ha : PT X a (liftT X.K t)) (hb : PW X (.BoolOp .And (b :: rest) pos) (liftT X.K u)) : PW X (.BoolOp .And (a :: b :: rest) pos) (liftT X.K (hAnd t u)) :=
  (pw_and ha hb).imp fun σ H Q ⟨θ, σh, A, Qh, rs, ra, w, k⟩ => ⟨θ, σh, A, _, rs, ra, w, fun θ1 H1 A1 b e1 ra1 w1 => by
    cases b with
    | true => exact ⟨θ1, σh, A1, _, rs.ext e1, ra1, w1.yes rfl, fun θ2 H2 A2 b e2 ra2 w2 => k _ _ _ _ (e1.trans e2) ra2 w2⟩
    | false => exact k _ _ _ _ e1 ra1 (w1.no rfl)⟩
theorem pwh_or {t u : TTh} (ha : PT X a (liftT X.K t)) (hb : PW X (.BoolOp .Or (b :: rest) pos) (liftT X.K u)) : PW X (.BoolOp .Or (a :: b :: rest) pos) (liftT X.K (hOr t u)) :=
  (pw_or ha hb).imp fun σ H Q ⟨θ, σh, A, Qh, rs, ra, w, k⟩ => ⟨θ, σh, A, _, rs, ra, w, fun θ1 H1 A1 b e1 ra1 w1 => by
    cases b with
    | true => exact k _ _ _ _ e1 ra1 (w1.yes rfl)
    | false => exact ⟨θ1, σh, A1, _, rs.ext e1, ra1, w1.no rfl, fun θ2 H2 A2 b e2 ra2 w2 => k _ _ _ _ (e1.trans e2) ra2 w2⟩⟩
theorem pth_not {t : TTh} (ha : PT X a (liftT X.K t)) : PT X (.UnaryOp .Not a pos) (liftT X.K (hNot t)) :=
  (pt_not ha).imp fun σ H Q ⟨θ, σh, A, Qh, rs, ra, w, k⟩ => ⟨θ, σh, A, _, rs, ra, w, fun θ1 H1 A1 b e1 ra1 w1 => k _ _ _ _ e1 ra1 w1⟩
/-- .. as values, all truths -/
def hAndV (t u : TEh) : TEh := fun σ A Q => t σ A fun d A1 => match d with | .v (.bl b) => Br b (u σ A1 Q) (Q (.v (.bl false)) A1) | _ => False
def hOrV (t u : TEh) : TEh := fun σ A Q => t σ A fun d A1 => match d with | .v (.bl b) => Br b (Q (.v (.bl true)) A1) (u σ A1 Q) | _ => False
def hNotV (t : TEh) : TEh := fun σ A Q => t σ A fun d A1 => match d with | .v (.bl b) => Q (.v (.bl (!b))) A1 | _ => False
theorem ph_one {op} {t : TEh} (h : PE X a (lift X.K t)) : PE X (.BoolOp op [a] pos) (lift X.K t) := pe_one h
theorem ph_and {t u : TEh} (ha : PE X a (lift X.K t)) (hb : PE X (.BoolOp .And (b :: rest) pos) (lift X.K u)) : PE X (.BoolOp .And (a :: b :: rest) pos) (lift X.K (hAndV t u)) :=
  (pe_and ha hb).imp fun σ H Q ⟨θ, σh, A, Qh, rs, ra, w, k⟩ => ⟨θ, σh, A, _, rs, ra, w, fun θ1 H1 A1 v d e1 ra1 r1 w1 => by
    split at w1
    · rename_i b
      cases r1
      refine ⟨b, rfl, ?_⟩
      cases b with
      | true => exact ⟨θ1, σh, A1, _, rs.ext e1, ra1, w1.yes rfl, k.ext e1⟩
      | false => exact (k.ext e1).here ra1 (.v _) (w1.no rfl)
    · exact w1.elim⟩
theorem ph_or {t u : TEh} (ha : PE X a (lift X.K t)) (hb : PE X (.BoolOp .Or (b :: rest) pos) (lift X.K u)) : PE X (.BoolOp .Or (a :: b :: rest) pos) (lift X.K (hOrV t u)) :=
  (pe_or ha hb).imp fun σ H Q ⟨θ, σh, A, Qh, rs, ra, w, k⟩ => ⟨θ, σh, A, _, rs, ra, w, fun θ1 H1 A1 v d e1 ra1 r1 w1 => by
    split at w1
    · rename_i b
      cases r1
      refine ⟨b, rfl, ?_⟩
      cases b with
      | true => exact (k.ext e1).here ra1 (.v _) (w1.yes rfl)
      | false => exact ⟨θ1, σh, A1, _, rs.ext e1, ra1, w1.no rfl, k.ext e1⟩
    · exact w1.elim⟩
theorem ph_not {t : TEh} (ha : PE X a (lift X.K t)) : PE X (.UnaryOp .Not a pos) (lift X.K (hNotV t)) :=
  (pe_not ha).imp fun σ H Q ⟨θ, σh, A, Qh, rs, ra, w, k⟩ => ⟨θ, σh, A, _, rs, ra, w, fun θ1 H1 A1 v d e1 ra1 r1 w1 => by
    split at w1
    · cases r1; exact ⟨_, rfl, (k.ext e1).here ra1 (.v _) w1⟩
    · exact w1.elim⟩
def hIfE (c : TTh) (t u : TEh) : TEh := fun σ A Q => c σ A fun b A1 => Br b (t σ A1 Q) (u σ A1 Q)
theorem ph_ifExp {tc : TTh} {t u : TEh} (hc : PT X c (liftT X.K tc)) (ha : PE X a (lift X.K t)) (hb : PE X b (lift X.K u)) : PE X (.IfExp c a b pos) (lift X.K (hIfE tc t u)) :=
  (pe_ifExp hc ha hb).imp fun σ H Q ⟨θ, σh, A, Qh, rs, ra, w, k⟩ => ⟨θ, σh, A, _, rs, ra, w, fun θ1 H1 A1 b e1 ra1 w1 => by
    cases b with
    | true => exact ⟨θ1, σh, A1, _, rs.ext e1, ra1, w1.yes rfl, k.ext e1⟩
    | false => exact ⟨θ1, σh, A1, _, rs.ext e1, ra1, w1.no rfl, k.ext e1⟩⟩
/-- - of a whole number -/
def hNeg (t : TEh) : TEh := fun σ A Q => t σ A fun d A1 => match d with | .v (.int i) => Q (.v (.int (-i))) A1 | _ => False
theorem ph_neg {t : TEh} (ha : PE X a (lift X.K t)) : PE X (.UnaryOp .USub a pos) (lift X.K (hNeg t)) :=
  (pe_un un_neg ha).imp fun σ H Q ⟨θ, σh, A, Qh, rs, ra, w, k⟩ => ⟨θ, σh, A, _, rs, ra, w, fun θ1 H1 A1 v d e1 ra1 r1 w1 => by
    split at w1
    · cases r1; exact ⟨_, rfl, (k.ext e1).here ra1 (.v _) w1⟩
    · exact w1.elim⟩
end
/-! ### statements -/
structure Eh where
  nx : SH → OH → Prop
  rt : KH
  bk : SH → OH → Prop := fun _ _ => False
  ct : SH → OH → Prop := fun _ _ => False
abbrev TSh := Eh → SH → OH → Prop
/-- what is wanted of the slots and the objects: by data -/
def Kn (K : PySem.W.Frag) (θ : List Addr) (H : Hp) (Q : L2.St → Hp → Prop) (Qh : SH → OH → Prop) : Prop := ∀ θ' σ' H' σh' A', Ext θ H θ' H' → RS K θ' H' σ' σh' → RA K θ' H' A' → Qh σh' A' → Q σ' H'
theorem Kn.ext {K : PySem.W.Frag} {θ θ' : List Addr} {H H' : Hp} {Q : L2.St → Hp → Prop} {Qh : SH → OH → Prop} (k : Kn K θ H Q Qh) (e : Ext θ H θ' H') : Kn K θ' H' Q Qh := fun _ _ _ _ _ e' rs ra q => k _ _ _ _ _ (e.trans e') rs ra q
structure KS (K : PySem.W.Frag) (θ : List Addr) (H : Hp) (De : Ends) (Dh : Eh) : Prop where
  nx : Kn K θ H De.nx Dh.nx
  rt : Kt K θ H De.rt Dh.rt
  bk : Kn K θ H De.bk Dh.bk
  ct : Kn K θ H De.ct Dh.ct
theorem KS.ext {K : PySem.W.Frag} {θ θ' : List Addr} {H H' : Hp} {De : Ends} {Dh : Eh} (k : KS K θ H De Dh) (e : Ext θ H θ' H') : KS K θ' H' De Dh := ⟨k.nx.ext e, k.rt.ext e, k.bk.ext e, k.ct.ext e⟩
def liftS (K : PySem.W.Frag) (t : TSh) : TS := fun De σ H => ∃ θ σh A Dh, RS K θ H σ σh ∧ RA K θ H A ∧ t Dh σh A ∧ KS K θ H De Dh
theorem _root_.L2.PS.imp {X : Cx} {st : Stmt} {t t' : TS} (h : PS X st t) (f : ∀ D σ H, t' D σ H → t D σ H) : PS X st t' := ⟨fun pins s σ H D I w => h.run pins s σ H D I (f D σ H w)⟩
theorem _root_.L2.PSs.imp {X : Cx} {st : List Stmt} {t t' : TS} (h : PSs X st t) (f : ∀ D σ H, t' D σ H → t D σ H) : PSs X st t' := ⟨fun pins s σ H D I w => h.run pins s σ H D I (f D σ H w)⟩
abbrev TGh := D → SH → OH → (SH → OH → Prop) → Prop
abbrev TGsh := List D → SH → OH → (SH → OH → Prop) → Prop
def liftG (K : PySem.W.Frag) (g : TGh) : TG := fun v σ H Q => ∃ θ d σh A Qh, RD K θ H v d ∧ RS K θ H σ σh ∧ RA K θ H A ∧ g d σh A Qh ∧ Kn K θ H Q Qh
def liftGs (K : PySem.W.Frag) (g : TGsh) : TGs := fun v σ H Q => ∃ θ d σh A Qh, RDs K θ H v d ∧ RS K θ H σ σh ∧ RA K θ H A ∧ g d σh A Qh ∧ Kn K θ H Q Qh
/-- a target's reading, by data -/
def LG (K : PySem.W.Frag) (g : TG) (gh : TGh) : Prop := ∀ v σ H Q, liftG K gh v σ H Q → g v σ H Q
def LGs (K : PySem.W.Frag) (g : TGs) (gh : TGsh) : Prop := ∀ v σ H Q, liftGs K gh v σ H Q → g v σ H Q
def hgName (i : Nat) : TGh := fun d σ A Q => Q (σ.set i (some d)) A
def hgNil : TGsh := fun ds σ A Q => match ds with | [] => Q σ A | _ => False
def hgCons (t : TGh) (u : TGsh) : TGsh := fun ds σ A Q => match ds with | d :: r => t d σ A fun σ1 A1 => u r σ1 A1 Q | _ => False
def hgTup (t : TGsh) : TGh := fun d σ A Q => match d with | .tup ds => t ds σ A Q | _ => False
section
variable {K : PySem.W.Frag}
theorem lg_name {i : Nat} : LG K (gName i) (hgName i) := fun v σ H Q ⟨θ, d, σh, A, Qh, r, rs, ra, w, k⟩ => k _ _ _ _ _ (.refl _ _) (RS.set (.some r) i rs) ra w
theorem lg_nil : LGs K gNil hgNil := fun v σ H Q ⟨θ, d, σh, A, Qh, r, rs, ra, w, k⟩ => by
  unfold hgNil at w
  split at w
  · cases r; exact ⟨rfl, k _ _ _ _ _ (.refl _ _) rs ra w⟩
  · exact w.elim
theorem lg_cons {g : TG} {gs : TGs} {gh : TGh} {gsh : TGsh} (h : LG K g gh) (h' : LGs K gs gsh) : LGs K (gCons g gs) (hgCons gh gsh) := fun v σ H Q ⟨θ, d, σh, A, Qh, r, rs, ra, w, k⟩ => by
  unfold hgCons at w
  split at w
  · cases r with
    | cons r1 r2 => exact ⟨_, _, rfl, h _ _ _ _ ⟨θ, _, σh, A, _, r1, rs, ra, w, fun θ1 σ1 H1 σh1 A1 e1 rs1 ra1 w1 => h' _ _ _ _ ⟨θ1, _, σh1, A1, _, r2.ext e1, rs1, ra1, w1, k.ext e1⟩⟩⟩
  · exact w.elim
/-- how many a target's names take -/
def LenG (gsh : TGsh) (n : Nat) : Prop := ∀ ds σ A Q, gsh ds σ A Q → ds.length = n
theorem len_nil : LenG hgNil 0 := fun ds σ A Q w => by
  unfold hgNil at w
  split at w
  · rfl
  · exact w.elim
theorem hgs_mono {gsh : TGsh} (h : ∀ ds σ A Q Q', (∀ σ A, Q σ A → Q' σ A) → gsh ds σ A Q → gsh ds σ A Q') : True := trivial
theorem lg_tup {n : Nat} {gs : TGs} {gsh : TGsh} (h : LGs K gs gsh) (hl : LenG gsh n) : LG K (gTup K n gs) (hgTup gsh) := fun v σ H Q ⟨θ, d, σh, A, Qh, r, rs, ra, w, k⟩ => by
  unfold hgTup at w
  split at w
  · cases r with
    | tup hs r => exact ⟨_, _, rfl, hs, by rw [r.length]; exact hl _ _ _ _ w, h _ _ _ _ ⟨θ, _, σh, A, _, r, rs, ra, w, k⟩⟩
  · exact w.elim
end
section
variable {X : Cx} {st : Stmt} {rest : List Stmt} {e a b : Expr} {es : List Expr} {pos : Pos}
def hNext : TSh := fun D σ A => D.nx σ A
def hSeq (t u : TSh) : TSh := fun D σ A => t { D with nx := u D } σ A
theorem pssh_nil : PSs X [] (liftS X.K hNext) := pss_nil.imp fun De σ H ⟨θ, σh, A, Dh, rs, ra, w, k⟩ => k.nx _ _ _ _ _ (.refl _ _) rs ra w
theorem pssh_cons {t u : TSh} (h1 : PS X st (liftS X.K t)) (h2 : PSs X rest (liftS X.K u)) : PSs X (st :: rest) (liftS X.K (hSeq t u)) :=
  (pss_cons h1 h2).imp fun De σ H ⟨θ, σh, A, Dh, rs, ra, w, k⟩ => ⟨θ, σh, A, _, rs, ra, w, ⟨fun θ1 σ1 H1 σh1 A1 e1 rs1 ra1 w1 => ⟨θ1, σh1, A1, Dh, rs1, ra1, w1, k.ext e1⟩, k.rt, k.bk, k.ct⟩⟩
theorem pssh_one {t : TSh} (h1 : PS X st (liftS X.K t)) : PSs X [st] (liftS X.K t) := pss_one h1
def hBreak : TSh := fun D σ A => D.bk σ A
def hCont : TSh := fun D σ A => D.ct σ A
theorem psh_pass : PS X (.Pass pos) (liftS X.K hNext) := ps_pass.imp fun De σ H ⟨θ, σh, A, Dh, rs, ra, w, k⟩ => k.nx _ _ _ _ _ (.refl _ _) rs ra w
theorem psh_break : PS X (.Break pos) (liftS X.K hBreak) := ps_break.imp fun De σ H ⟨θ, σh, A, Dh, rs, ra, w, k⟩ => k.bk _ _ _ _ _ (.refl _ _) rs ra w
theorem psh_continue : PS X (.Continue pos) (liftS X.K hCont) := ps_continue.imp fun De σ H ⟨θ, σh, A, Dh, rs, ra, w, k⟩ => k.ct _ _ _ _ _ (.refl _ _) rs ra w
theorem psh_dead {t : TSh} (h : PS X st (fun _ _ _ => False)) : PS X st (liftS X.K fun _ _ _ => False) := h.imp fun De σ H ⟨θ, σh, A, Dh, rs, ra, w, k⟩ => w
def hDrop (t : TEh) : TSh := fun D σ A => t σ A fun _ A1 => D.nx σ A1
theorem psh_expr {t : TEh} (he : PE X e (lift X.K t)) (hs : swapsWith e none pos.line X.env = pure false := by rfl) : PS X (.Expr e pos) (liftS X.K (hDrop t)) :=
  (ps_expr he hs).imp fun De σ H ⟨θ, σh, A, Dh, rs, ra, w, k⟩ => ⟨θ, σh, A, _, rs, ra, w, fun θ1 H1 A1 v d e1 ra1 r1 w1 => k.nx _ _ _ _ _ e1 (rs.ext e1) ra1 w1⟩
def hRet (t : TEh) : TSh := fun D σ A => t σ A D.rt
theorem psh_ret {t : TEh} (he : PE X e (lift X.K t)) : PS X (.Return (some e) pos) (liftS X.K (hRet t)) :=
  (ps_ret he).imp fun De σ H ⟨θ, σh, A, Dh, rs, ra, w, k⟩ => ⟨θ, σh, A, _, rs, ra, w, k.rt⟩
def hRetN : TSh := fun D _ A => D.rt (.v .non) A
theorem psh_retN : PS X (.Return none pos) (liftS X.K hRetN) := ps_retN.imp fun De σ H ⟨θ, σh, A, Dh, rs, ra, w, k⟩ => k.rt.here ra (.v _) w
def hIfS (c : TTh) (t u : TSh) : TSh := fun D σ A => c σ A fun b A1 => Br b (t D σ A1) (u D σ A1)
theorem psh_if {c : Expr} {xs ys : List Stmt} {tc : TTh} {t u : TSh} (hc : PT X c (liftT X.K tc)) (ha : PSs X xs (liftS X.K t)) (hb : PSs X ys (liftS X.K u)) : PS X (.If c xs ys pos) (liftS X.K (hIfS tc t u)) :=
  (ps_if hc ha hb).imp fun De σ H ⟨θ, σh, A, Dh, rs, ra, w, k⟩ => ⟨θ, σh, A, _, rs, ra, w, fun θ1 H1 A1 b e1 ra1 w1 => by
    cases b with
    | true => exact ⟨θ1, σh, A1, Dh, rs.ext e1, ra1, w1.yes rfl, k.ext e1⟩
    | false => exact ⟨θ1, σh, A1, Dh, rs.ext e1, ra1, w1.no rfl, k.ext e1⟩⟩
def hAsg (t : TEh) (g : TGh) : TSh := fun D σ A => t σ A fun d A1 => g d σ A1 D.nx
theorem lift_asg {t : TEh} {g : TG} {gh : TGh} (lg : LG X.K g gh) (De : Ends) (σ : L2.St) (H : Hp) : liftS X.K (hAsg t gh) De σ H → tAsg (lift X.K t) g De σ H := fun ⟨θ, σh, A, Dh, rs, ra, w, k⟩ =>
  ⟨θ, σh, A, _, rs, ra, w, fun θ1 H1 A1 v d e1 ra1 r1 w1 => lg _ _ _ _ ⟨θ1, d, σh, A1, _, r1, rs.ext e1, ra1, w1, k.nx.ext e1⟩⟩
theorem psh_asg {tg : Expr} {t : TEh} {g : TG} {gh : TGh} (lg : LG X.K g gh) (he : PE X e (lift X.K t)) (hg : PG X tg g) (hs : swapsWithSole [tg] e pos.line X.env = pure false := by rfl) (hw : swappedStores [tg] e X.env = pure none := by rfl)
    (h1 : (assignEach [tg] X.env).map (·.2) = [assign tg X.env] := by rfl) : PS X (.Assign [tg] e pos) (liftS X.K (hAsg t gh)) := (ps_asg he hg hs hw h1).imp (lift_asg lg)
theorem psh_set {i : Nat} {x : Str} {t : TEh} {pos' : Pos} (hN : X.N.Nodup) (hi : X.N[i]? = some x) (hx : Loc X.env.scope x) (he : PE X e (lift X.K t)) (hs : swapsWith e (some (.Name x pos')) pos.line X.env = pure false := by rfl) (hf : X.fn x = true ∨ X.env.scope.names.lookup x = some .local := by first | exact .inl rfl | exact .inr rfl | assumption) :
    PS X (.Assign [.Name x pos'] e pos) (liftS X.K (hAsg t (hgName i))) := (ps_set hN hi hx he hs hf).imp (lift_asg lg_name)
def hPar (i j : Nat) (t : TAh) : TSh := fun D σ A => t σ A fun ds A1 => match ds with | [d, e] => D.nx ((σ.set i (some d)).set j (some e)) A1 | _ => False
theorem psh_par {i j : Nat} {x y : Str} {t : TAh} {px py pt : Pos} {kt k2 pt2} (hc : X.calm = true) (hN : X.N.Nodup) (hi : X.N[i]? = some x) (hj : X.N[j]? = some y) (hij : i ≠ j)
    (hx : X.env.scope.names.lookup x = some .local) (hy : X.env.scope.names.lookup y = some .local) (ha : PA X [a, b] (liftA X.K t))
    (hw : swappedStores [.Tuple [.Name x px, .Name y py] kt pt] (.Tuple [a, b] k2 pt2) X.env = pure (some [x, y]))
    (hs : swapsWithSole [.Tuple [.Name x px, .Name y py] kt pt] (.Tuple [a, b] k2 pt2) pos.line X.env = pure false := by rfl) :
    PS X (.Assign [.Tuple [.Name x px, .Name y py] kt pt] (.Tuple [a, b] k2 pt2) pos) (liftS X.K (hPar i j t)) :=
  (ps_par hc hN hi hj hij hx hy ha hw hs).imp fun De σ H ⟨θ, σh, A, Dh, rs, ra, w, k⟩ => ⟨θ, σh, A, _, rs, ra, w, fun θ1 H1 A1 vs ds e1 ra1 r1 w1 => by
    split at w1
    · cases r1 with
      | cons r1 r2 =>
        cases r2 with
        | cons r2 r3 =>
          cases r3
          exact ⟨_, _, rfl, k.nx _ _ _ _ _ e1 (RS.set (.some r2) j (RS.set (.some r1) i (rs.ext e1))) ra1 w1⟩
    · exact w1.elim⟩
/-- name op= e, of whole numbers -/
def hAug (i : Nat) (t : TEh) (f : Int → Int → Int) : TSh := fun D σ A => getS σ i fun x => t σ A fun y A1 => match x, y with | .v (.int m), .v (.int n) => D.nx (σ.set i (some (.v (.int (f m n))))) A1 | _, _ => False
theorem psh_aug {i : Nat} {x : Str} {t : TEh} {op : Operator} {f : Int → Int → Int} {pos' : Pos} (hN : X.N.Nodup) (hi : X.N[i]? = some x) (hx : Loc X.env.scope x) (he : PE X e (lift X.K t)) (ho : PIp X op (ipI f)) (hf : X.fn x = true ∨ X.env.scope.names.lookup x = some .local := by first | exact .inl rfl | exact .inr rfl | assumption) :
    PS X (.AugAssign (.Name x pos') op e pos) (liftS X.K (hAug i t f)) :=
  (ps_aug hN hi hx he ho hf).imp fun De σ H ⟨θ, σh, A, Dh, rs, ra, w, k⟩ => by
    obtain ⟨v, d, h1, h2, h3⟩ := getS_ok rs w
    refine ⟨v, h1, θ, σh, A, _, rs, ra, h3, fun θ1 H1 A1 u y e1 ra1 r1 w1 => ?_⟩
    split at w1
    · cases h2
      cases r1
      exact ⟨_, _, rfl, rfl, k.nx _ _ _ _ _ e1 (RS.set (.some (.v _)) i (rs.ext e1)) ra1 w1⟩
    · exact w1.elim
/-! ### while -/
def hWhile (c : TTh) (tb : TSh) : TSh := fun D σ A => ∃ W : Nat → SH → OH → Prop, (∃ m, W m σ A) ∧ ∀ m σ A, W m σ A →
  c σ A fun b A1 => Br b (tb { D with nx := fun σ' A' => ∃ m', m' < m ∧ W m' σ' A', ct := fun σ' A' => ∃ m', m' < m ∧ W m' σ' A', bk := D.nx } σ A1) (D.nx σ A1)
theorem psh_while {c : Expr} {body : List Stmt} {tc : TTh} {tb : TSh} (hp : PassesOwn (model X.prog X.w) X.A X.env X.xe) (hc : PT X c (liftT X.K tc)) (hb : PSs X body (liftS X.K tb)) : PS X (.While c body [] pos) (liftS X.K (hWhile tc tb)) :=
  (ps_while hp hc hb).imp fun De σ H ⟨θ, σh, A, Dh, rs, ra, ⟨W, ⟨m0, w0⟩, turn⟩, k⟩ => by
    refine ⟨fun m σ' H' => ∃ θ' σh' A', Ext θ H θ' H' ∧ RS X.K θ' H' σ' σh' ∧ RA X.K θ' H' A' ∧ W m σh' A', ⟨m0, θ, σh, A, .refl _ _, rs, ra, w0⟩, ?_⟩
    rintro m σ1 H1 ⟨θ1, σh1, A1, e1, rs1, ra1, w1⟩
    refine ⟨θ1, σh1, A1, _, rs1, ra1, turn m σh1 A1 w1, fun θ2 H2 A2 b e2 ra2 w2 => ?_⟩
    cases b with
    | true =>
      rw [if_pos rfl]
      refine ⟨fun σ' H' => ∃ m', m' < m ∧ ∃ θ' σh' A', Ext θ H θ' H' ∧ RS X.K θ' H' σ' σh' ∧ RA X.K θ' H' A' ∧ W m' σh' A', fun _ _ z => z, ?_⟩
      refine ⟨θ2, σh1, A2, _, rs1.ext e2, ra2, w2.yes rfl, ⟨?_, (k.rt.ext e1).ext e2, (k.nx.ext e1).ext e2, ?_⟩⟩
      · rintro θ3 σ3 H3 σh3 A3 e3 rs3 ra3 ⟨m', hm, w3⟩
        exact ⟨m', hm, θ3, σh3, A3, (e1.trans e2).trans e3, rs3, ra3, w3⟩
      · rintro θ3 σ3 H3 σh3 A3 e3 rs3 ra3 ⟨m', hm, w3⟩
        exact ⟨m', hm, θ3, σh3, A3, (e1.trans e2).trans e3, rs3, ra3, w3⟩
    | false =>
      rw [if_neg Bool.false_ne_true]
      exact (k.nx.ext e1) _ _ _ _ _ e2 (rs1.ext e2) ra2 (w2.no rfl)
/-! ### what a for walks -/
structure Src where
  n : Nat
  item : Nat → Option D
  live : OH → Prop
def RJ (K : PySem.W.Frag) (θ0 : List Addr) (H0 : Hp) (J : It) (src : Src) : Prop := ∀ θ H A i, Ext θ0 H0 θ H → RA K θ H A → src.live A →
  (i < src.n → J.go i H ∧ ∀ x H', J.yld i H x H' → ∃ d, src.item i = some d ∧ Ext θ H θ H' ∧ RA K θ H' A ∧ RD K θ H' x d) ∧ (src.n ≤ i → J.stop i H)
abbrev TIh := SH → OH → (Src → OH → Prop) → Prop
def liftI (K : PySem.W.Frag) (ti : TIh) : TI := fun σ H R => ∃ θ σh A Rh, RS K θ H σ σh ∧ RA K θ H A ∧ ti σh A Rh ∧ ∀ θ' H' A' J src, Ext θ H θ' H' → RA K θ' H' A' → RJ K θ' H' J src → Rh src A' → R J H'
theorem _root_.L2.PI.imp {tg l : Expr} {w w' : TI} (h : PI X tg l w) (f : ∀ σ H R, w' σ H R → w σ H R) : PI X tg l w' := ⟨fun pins s σ H R I q => h.run pins s σ H R I (f σ H R q)⟩
/-- a list or a tuple -/
def iSeq (K : PySem.W.Frag) (tl : TE) : TI := fun σ H R => tl σ H fun x H1 => ∃ a, x = .ref a ∧ (((∃ xs, SqL K H1 a xs) ∧ R (Itl K a) H1) ∨ ((∃ xs, SqT K H1 a xs) ∧ R (Itt K a) H1))
theorem pi_seq {tg l : Expr} {tl : TE} (hl : PE X l tl) : PI X tg l (iSeq X.K tl) := by
  refine ⟨fun pins s σ H R I h => ?_⟩
  refine thn (hl.run pins s σ H _ I h) fun v s1 ⟨x, H1, I1, r1, q1⟩ => ?_
  obtain ⟨a, e, q⟩ := q1
  subst e
  cases r1
  rcases q with ⟨⟨xs, hq⟩, q⟩ | ⟨⟨xs, hq⟩, q⟩
  · obtain ⟨its, rv, p, hz⟩ := I1.list hq
    refine wpAny_pyIter_list p.isList ?_
    refine ⟨s1.heap.objs.size, [s1.heap.objs.size], _, _, H1, rfl, I1.kept (t' := s1.toks) fun b o e => Heap.get?_push_of_some _ e, turn_list a _, ⟨_, Heap.get?_push_size _ rfl, rfl, rfl⟩, fun b hb => ?_, q⟩
    have e : b = s1.heap.objs.size := by simpa using hb
    subst e
    exact I1.fpOk (Nat.le_refl _) (I1.hok.fresh (Nat.le_refl _))
  · obtain ⟨its, rv, p, hz⟩ := I1.tuple hq
    refine wpAny_pyIter_tuple (show s1.heap.IsTuple a its.toArray from p) ?_
    refine ⟨s1.heap.objs.size, [s1.heap.objs.size], _, _, H1, rfl, I1.kept (t' := s1.toks) fun b o e => Heap.get?_push_of_some _ e, turn_tuple a _, ⟨_, Heap.get?_push_size _ rfl, rfl, rfl⟩, fun b hb => ?_, q⟩
    have e : b = s1.heap.objs.size := by simpa using hb
    subst e
    exact I1.fpOk (Nat.le_refl _) (I1.hok.fresh (Nat.le_refl _))
def srcT (ds : List D) : Src := ⟨ds.length, fun i => ds[i]?, fun _ => True⟩
def srcL (k : Nat) (ds : List D) : Src := ⟨ds.length, fun i => ds[i]?, fun A => A[k]? = some (.lst ds)⟩
def srcI (ns : List Int) : Src := ⟨ns.length, fun i => ns[i]?.map fun n => .v (.int n), fun _ => True⟩
def srcR (lo : Int) (n : Nat) : Src := ⟨n, fun i => some (.v (.int (lo + i))), fun _ => True⟩
def hSrc : D → OH → (Src → OH → Prop) → Prop
  | .tup ds, A, R => R (srcT ds) A
  | .ptr k, A, R => ∃ ds, A[k]? = some (.lst ds) ∧ R (srcL k ds) A
  | .scr ns, A, R => R (srcI ns) A
  | _, _, _ => False
def hIt (t : TEh) : TIh := fun σ A R => t σ A fun d A1 => hSrc d A1 R
end
section
variable {K : PySem.W.Frag}
theorem rj_tup {θ0 : List Addr} {H0 : Hp} {a : Addr} {xs : List V} {ds : List D} (hs : SqT K H0 a xs) (r : RDs K θ0 H0 xs ds) : RJ K θ0 H0 (Itt K a) (srcT ds) := fun θ H A i e ra _ => by
  have hs' := SqT.stab hs e.stab
  have r' := r.ext e
  refine ⟨fun hi => ⟨⟨xs, xs[i]'(by rw [r.length]; exact hi), hs', List.getElem?_eq_getElem _⟩, fun x H' y => ?_⟩, fun hi => ⟨xs, hs', by rw [r.length]; exact hi⟩⟩
  obtain ⟨rfl, y⟩ := y
  obtain ⟨d, h1, h2⟩ := r'.get' (y xs hs')
  exact ⟨d, h1, .refl _ _, ra, h2⟩
theorem rj_lst {θ0 : List Addr} {H0 : Hp} {a : Addr} {k : Nat} {ds : List D} (hk : θ0[k]? = some a) : RJ K θ0 H0 (Itl K a) (srcL k ds) := fun θ H A i e ra (lv : A[k]? = some (.lst ds)) => by
  have hk' : θ[k]? = some a := by
    obtain ⟨t, rfl⟩ := e.pre
    rw [List.getElem?_append_left (List.getElem?_eq_some_iff.mp hk).1]; exact hk
  obtain ⟨xs, g, r⟩ := ra.ok _ _ _ hk' lv
  refine ⟨fun hi => ⟨⟨xs, xs[i]'(by rw [r.length]; exact hi), SqL.of g, List.getElem?_eq_getElem _⟩, fun x H' y => ?_⟩, fun hi => ⟨xs, SqL.of g, by rw [r.length]; exact hi⟩⟩
  obtain ⟨rfl, y⟩ := y
  obtain ⟨d, h1, h2⟩ := r.get' (y xs (SqL.of g))
  exact ⟨d, h1, .refl _ _, ra, h2⟩
theorem rj_scr {θ0 : List Addr} {H0 : Hp} {a : Addr} {ns : List Int} (hs : SqF K H0 a (ns.map V.int)) : RJ K θ0 H0 (Itl K a) (srcI ns) := fun θ H A i e ra _ => by
  have hs' := (SqF.stab hs e.stab).l
  refine ⟨fun hi => ⟨⟨ns.map V.int, (ns.map V.int)[i]'(by rw [List.length_map]; exact hi), hs', List.getElem?_eq_getElem _⟩, fun x H' y => ?_⟩, fun hi => ⟨_, hs', by rw [List.length_map]; exact hi⟩⟩
  obtain ⟨rfl, y⟩ := y
  have q := y _ hs'
  rw [List.getElem?_map] at q
  cases h : ns[i]? with
  | none => rw [h] at q; cases q
  | some n =>
    rw [h] at q
    cases q
    exact ⟨.v (.int n), by show (ns[i]?).map _ = _; rw [h]; rfl, .refl _ _, ra, .v _⟩
theorem rj_rng {θ0 : List Addr} {H0 : Hp} {lo : Int} {n : Nat} : RJ K θ0 H0 (Itr lo n) (srcR lo n) := fun θ H A i e ra _ => by
  refine ⟨fun hi => ⟨hi, fun x H' y => ?_⟩, fun hi => hi⟩
  obtain ⟨rfl, rfl⟩ := y
  exact ⟨_, rfl, .refl _ _, ra, .v _⟩
end
section
variable {X : Cx} {tg l a b : Expr} {p pos : Pos}
theorem pih_seq {t : TEh} (hl : PE X l (lift X.K t)) : PI X tg l (liftI X.K (hIt t)) := (pi_seq hl).imp fun σ H R ⟨θ, σh, A, Rh, rs, ra, w, k⟩ => ⟨θ, σh, A, _, rs, ra, w, fun θ1 H1 A1 v d e1 ra1 r1 w1 => by
  unfold hSrc at w1
  split at w1
  · cases r1 with
    | tup hs r => exact ⟨_, rfl, .inr ⟨⟨_, hs⟩, k _ _ _ _ _ e1 ra1 (rj_tup hs r) w1⟩⟩
  · obtain ⟨ds, h0, q⟩ := w1
    cases r1 with
    | ptr hi =>
      obtain ⟨xs, g, r⟩ := ra1.ok _ _ _ hi h0
      exact ⟨_, rfl, .inl ⟨⟨_, SqL.of g⟩, k _ _ _ _ _ e1 ra1 (rj_lst hi) q⟩⟩
  · cases r1 with
    | scr hs => exact ⟨_, rfl, .inl ⟨⟨_, hs.l⟩, k _ _ _ _ _ e1 ra1 (rj_scr hs) w1⟩⟩
  · exact w1.elim⟩
def hRng1 (t : TAh) : TIh := fun σ A R => t σ A fun ds A1 => match ds with | [.v (.int j)] => (-(2 ^ 62) ≤ j ∧ j < 2 ^ 62) ∧ R (srcR 0 j.toNat) A1 | _ => False
def hRng2 (t : TAh) : TIh := fun σ A R => t σ A fun ds A1 => match ds with | [.v (.int i), .v (.int j)] => (-(2 ^ 62) ≤ i ∧ i < 2 ^ 62 ∧ -(2 ^ 62) ≤ j ∧ j < 2 ^ 62) ∧ R (srcR i (j - i).toNat) A1 | _ => False
theorem RDs.ints1 {K : PySem.W.Frag} {θ : List Addr} {H : Hp} {vs : List V} {x : V} (r : RDs K θ H vs [.v x]) : vs = [x] := by
  cases r with
  | cons r t => cases t; cases r; rfl
theorem RDs.ints2 {K : PySem.W.Frag} {θ : List Addr} {H : Hp} {vs : List V} {x y : V} (r : RDs K θ H vs [.v x, .v y]) : vs = [x, y] := by
  cases r with
  | cons r t => cases r; rw [t.ints1]
theorem pih_range1 {t : TAh} (hg : Gl X "range") (hm : X.mg "range" = none) (ha : PA X [a] (liftA X.K t)) (hs : starEach [a] X.env = [(false, eval a X.env)] := by rfl) : PI X tg (.Call (.Name "range" p) [a] [] pos) (liftI X.K (hRng1 t)) :=
  (pi_range1 hg hm ha hs).imp fun σ H R ⟨θ, σh, A, Rh, rs, ra, w, k⟩ => ⟨θ, σh, A, _, rs, ra, w, fun θ1 H1 A1 v d e1 ra1 r1 w1 => by
    split at w1
    · exact ⟨_, r1.ints1, w1.1.1, w1.1.2, k _ _ _ _ _ e1 ra1 rj_rng w1.2⟩
    · exact w1.elim⟩
theorem pih_range2 {t : TAh} (hg : Gl X "range") (hm : X.mg "range" = none) (ha : PA X [a, b] (liftA X.K t)) (hs : starEach [a, b] X.env = [(false, eval a X.env), (false, eval b X.env)] := by rfl) (hs2 : starEach [b] X.env = [(false, eval b X.env)] := by rfl) :
    PI X tg (.Call (.Name "range" p) [a, b] [] pos) (liftI X.K (hRng2 t)) :=
  (pi_range2 hg hm ha hs hs2).imp fun σ H R ⟨θ, σh, A, Rh, rs, ra, w, k⟩ => ⟨θ, σh, A, _, rs, ra, w, fun θ1 H1 A1 v d e1 ra1 r1 w1 => by
    split at w1
    · exact ⟨_, _, r1.ints2, w1.1, k _ _ _ _ _ e1 ra1 rj_rng w1.2⟩
    · exact w1.elim⟩
/-! ### for -/
/-- over what stays as it is: Pv by the turn -/
def hFor (ti : TIh) (g : TGh) (tb : TSh) : TSh := fun D σ A => ti σ A fun src A1 => ∃ Pv : Nat → SH → OH → Prop, Pv 0 σ A1 ∧ (∀ i σ A, i ≤ src.n → Pv i σ A → src.live A) ∧
  (∀ i d σ A, i < src.n → src.item i = some d → Pv i σ A → g d σ A fun σ2 A2 => tb { D with nx := Pv (i + 1), ct := Pv (i + 1), bk := D.nx } σ2 A2) ∧ ∀ σ A, Pv src.n σ A → D.nx σ A
theorem psh_for {iter : Expr} {body : List Stmt} {ti : TIh} {g : TG} {gh : TGh} {tb : TSh} (lg : LG X.K g gh) (hp : PassesOwn (model X.prog X.w) X.A X.env X.xe) (hc : X.calm = true) (hi : PI X tg iter (liftI X.K ti)) (hg : PG X tg g) (hb : PSs X body (liftS X.K tb))
    (hs : ∀ x, foldedSetIterable iter X.env x = pure x := by intro _; rfl) : PS X (.For tg iter body [] pos) (liftS X.K (hFor ti gh tb)) :=
  (ps_for hp hc hi hg hb hs).imp fun De σ H ⟨θ, σh, A, Dh, rs, ra, w, k⟩ => ⟨θ, σh, A, _, rs, ra, w, fun θ1 H1 A1 J src e1 ra1 rj ⟨Pv, h0, hl, hs, hd⟩ => by
    refine ⟨fun i m σ' H' => m = src.n - i ∧ i ≤ src.n ∧ ∃ θ' σh' A', Ext θ1 H1 θ' H' ∧ RS X.K θ' H' σ' σh' ∧ RA X.K θ' H' A' ∧ Pv i σh' A', ⟨src.n, by simp, Nat.zero_le _, θ1, σh, A1, .refl _ _, rs.ext e1, ra1, h0⟩, ?_⟩
    rintro i m σ2 H2 ⟨rfl, hi, θ2, σh2, A2, e2, rs2, ra2, p2⟩
    obtain ⟨r1, r2⟩ := rj θ2 H2 A2 i e2 ra2 (hl i σh2 A2 hi p2)
    by_cases hlt : i < src.n
    · obtain ⟨go, yl⟩ := r1 hlt
      refine .inr ⟨go, fun σ' H' => ∃ θ' σh' A', Ext θ1 H1 θ' H' ∧ RS X.K θ' H' σ' σh' ∧ RA X.K θ' H' A' ∧ Pv (i + 1) σh' A', fun σ' H' q => ⟨src.n - (i + 1), by omega, rfl, hlt, q⟩, fun x H3 y => ?_⟩
      obtain ⟨d, hd, e3, ra3, r3⟩ := yl x H3 y
      refine lg _ _ _ _ ⟨θ2, d, σh2, A2, _, r3, rs2.ext e3, ra3, hs i d σh2 A2 hlt hd p2, fun θ4 σ4 H4 σh4 A4 e4 rs4 ra4 w4 => ?_⟩
      refine ⟨θ4, σh4, A4, _, rs4, ra4, w4, ⟨?_, (((k.rt.ext e1).ext e2).ext e3).ext e4, (((k.nx.ext e1).ext e2).ext e3).ext e4, ?_⟩⟩
      · exact fun θ5 σ5 H5 σh5 A5 e5 rs5 ra5 w5 => ⟨θ5, σh5, A5, ((e2.trans e3).trans e4).trans e5, rs5, ra5, w5⟩
      · exact fun θ5 σ5 H5 σh5 A5 e5 rs5 ra5 w5 => ⟨θ5, σh5, A5, ((e2.trans e3).trans e4).trans e5, rs5, ra5, w5⟩
    · have e : i = src.n := by omega
      subst e
      exact .inl ⟨r2 (Nat.le_refl _), ((k.nx.ext e1).ext e2) _ _ _ _ _ (.refl _ _) rs2 ra2 (hd _ _ p2)⟩⟩
/-! ### comprehensions -/
/-- a target that only writes the block's own slots -/
def Keeps (vs : List Nat) (g : TG) : Prop := ∀ v σ H Q, g v σ H Q → g v σ H fun σ' H' => L2.wipe σ' vs = L2.wipe σ vs ∧ Q σ' H'
def Keepss (vs : List Nat) (g : TGs) : Prop := ∀ v σ H Q, g v σ H Q → g v σ H fun σ' H' => L2.wipe σ' vs = L2.wipe σ vs ∧ Q σ' H'
theorem wipe_set {i : Nat} {x : Option V} : ∀ {vs : List Nat} {σ : L2.St}, i ∈ vs → L2.wipe (σ.set i x) vs = L2.wipe σ vs
  | [], _, h => nomatch h
  | v :: vs, σ, h => by
    show (L2.wipe (σ.set i x) vs).set v none = (L2.wipe σ vs).set v none
    by_cases q : i ∈ vs
    · rw [wipe_set q]
    · have e : i = v := (List.mem_cons.mp h).resolve_right q
      subst e
      have f : ∀ (ws : List Nat), (L2.wipe (σ.set i x) ws).set i none = (L2.wipe σ ws).set i none := fun ws => by
        induction ws with
        | nil => show (σ.set i x).set i none = σ.set i none; rw [List.set_set]
        | cons w ws ih =>
          show ((L2.wipe (σ.set i x) ws).set w none).set i none = ((L2.wipe σ ws).set w none).set i none
          by_cases c : w = i
          · subst c; rw [ih]
          · rw [List.set_comm _ _ c, ih, List.set_comm _ _ (Ne.symm c)]
      exact f vs
theorem keeps_name {i : Nat} {vs : List Nat} (h : i ∈ vs) : Keeps vs (gName i) := fun v σ H Q w => ⟨wipe_set h, w⟩
theorem keeps_nil {vs : List Nat} : Keepss vs gNil := fun v σ H Q w => ⟨w.1, rfl, w.2⟩
theorem keeps_cons {vs : List Nat} {g : TG} {gs : TGs} (h : Keeps vs g) (h' : Keepss vs gs) (mono : ∀ v σ H Q Q', (∀ σ H, Q σ H → Q' σ H) → g v σ H Q → g v σ H Q') : Keepss vs (gCons g gs) := fun v σ H Q ⟨x, r, e, w⟩ =>
  ⟨x, r, e, mono _ _ _ _ _ (fun σ1 H1 ⟨q1, q2⟩ => by
    have := h' _ _ _ _ q2
    rw [q1] at this
    exact this) (h _ _ _ _ w)⟩
theorem mono_name {i : Nat} : ∀ v σ H Q Q', (∀ σ H, Q σ H → Q' σ H) → gName i v σ H Q → gName i v σ H Q' := fun _ _ _ _ _ h w => h _ _ w
theorem keeps_tup {K : PySem.W.Frag} {vs : List Nat} {n : Nat} {gs : TGs} (h : Keepss vs gs) : Keeps vs (gTup K n gs) := fun v σ H Q ⟨a, xs, e, hs, hl, w⟩ => ⟨a, xs, e, hs, hl, h _ _ _ _ w⟩
theorem wipe_wipe (σ : L2.St) (vs : List Nat) : L2.wipe (L2.wipe σ vs) vs = L2.wipe σ vs := by
  have f : ∀ (ws us : List Nat), (∀ w ∈ ws, w ∈ us) → L2.wipe (L2.wipe σ ws) us = L2.wipe σ us := fun ws => by
    induction ws with
    | nil => intro us _; rfl
    | cons w ws ih =>
      intro us h
      show L2.wipe ((L2.wipe σ ws).set w none) us = _
      rw [wipe_set (h w List.mem_cons_self), ih us fun x hx => h x (List.mem_cons_of_mem _ hx)]
  exact f vs vs fun _ h => h
def hLc (ti : TIh) (g : TGh) (tt : TTh) (te : TEh) (vs : List Nat) : TEh := fun σ A Q => ti σ A fun src A1 => ∃ Pv : Nat → List D → OH → Prop, src.n ≤ 100000 ∧ Pv 0 [] A1 ∧ (∀ i acc A, i ≤ src.n → Pv i acc A → src.live A) ∧
  (∀ i d acc A, i < src.n → src.item i = some d → Pv i acc A → g d (wipeH σ vs) A fun σ2 A2 => tt σ2 A2 fun b A3 => Br b (te σ2 A3 fun e A4 => Pv (i + 1) (acc ++ [e]) A4) (Pv (i + 1) acc A3)) ∧ ∀ acc A, Pv src.n acc A → NewQ A (.lst acc) Q
/-- a list that no number stands for may be written -/
theorem RA.off {K : PySem.W.Frag} {θ : List Addr} {H : Hp} {A : OH} {a : Addr} {u : HO} (ra : RA K θ H A) (na : a ∉ θ) (mu : Mut (H a)) : RA K θ (upd H a u) A :=
  ⟨ra.len, ra.nd, fun i b o h1 h2 => by
    have ne : b ≠ a := fun z => na (by rw [← z]; exact List.mem_of_getElem? h1)
    have q := (ra.ok i b o h1 h2).stab (t := []) (stab_put (u := u) mu) (by rw [upd_ne ne]) fun dx e => by rw [upd_ne fun z => by subst z; rw [e] at mu; exact mu]; exact e
    rw [List.append_nil] at q
    exact q⟩
theorem Ext.off {θ θ' : List Addr} {H H' : Hp} {a : Addr} {u : HO} (e : Ext θ H θ' H') (ha : H a = none) (mu : Mut (H' a)) : Ext θ H θ' (upd H' a u) :=
  ⟨e.pre, e.new, fun b o nb h => by rw [upd_ne (ne_of_none h ha)]; exact e.stay b o nb h, e.stab.trans (stab_put mu)⟩
theorem RA.into {K : PySem.W.Frag} {θ : List Addr} {H : Hp} {A : OH} {a : Addr} {xs : List V} {ds : List D} (ra : RA K θ H A) (na : a ∉ θ) (h : H a = some (.lst xs)) (r : RDs K θ H xs ds) : RA K (θ ++ [a]) H (A ++ [.lst ds]) := by
  refine ⟨by rw [List.length_append, List.length_append, ra.len]; rfl, ?_, fun i b o h1 h2 => ?_⟩
  · rw [List.nodup_append]
    exact ⟨ra.nd, by simp, fun x hx y hy => by rw [List.mem_singleton.mp hy]; exact fun z => na (by rw [← z]; exact hx)⟩
  · by_cases hi : i < θ.length
    · rw [List.getElem?_append_left hi] at h1
      rw [List.getElem?_append_left (by rw [← ra.len]; exact hi)] at h2
      exact (ra.ok i b o h1 h2).stab (.refl H) rfl fun _ e => e
    · rw [List.getElem?_append_right (by omega)] at h1
      rw [List.getElem?_append_right (by rw [← ra.len]; omega)] at h2
      have e : i - θ.length = 0 := by
        have := (List.getElem?_eq_some_iff.mp h1).1
        simp at this
        omega
      rw [e] at h1
      rw [← ra.len, e] at h2
      simp at h1 h2
      subst h1 h2
      exact ⟨xs, h, r.stab (.refl H)⟩
theorem lift_lc {K : PySem.W.Frag} {ti : TIh} {g : TG} {gh : TGh} {tt : TTh} {te : TEh} {vs : List Nat} (lg : LG K g gh) (kp : Keeps vs g) (σ : L2.St) (H : Hp) (Q : VK) : lift K (hLc ti gh tt te vs) σ H Q → tLc (liftI K ti) g (liftT K tt) (lift K te) vs σ H Q :=
  fun ⟨θ, σh, A, Qh, rs, ra, w, k⟩ => ⟨θ, σh, A, _, rs, ra, w, fun θ1 H1 A1 J src e1 ra1 rj ⟨Pv, hn, h0, hl, hs, hd⟩ D hD => by
    have nD : ∀ {θ'' : List Addr} {H'' : Hp} {A'' : OH}, RA K θ'' H'' A'' → H'' D = none → D ∉ θ'' := fun ra' h z => by
      obtain ⟨u, hu, _⟩ := ra'.mut z
      rw [h] at hu; cases hu
    refine ⟨fun i m H' => m = src.n - i ∧ i ≤ src.n ∧ ∃ θ' A' acc xs, Ext θ1 H1 θ' H' ∧ RA K θ' H' A' ∧ H' D = some (.lst xs) ∧ RDs K θ' H' xs acc ∧ D ∉ θ' ∧ acc.length ≤ i ∧ Pv i acc A',
      ⟨src.n, by simp, Nat.zero_le _, θ1, A1, [], [], .new0 hD, ra1.new0 hD, upd_same, .nil, nD ra1 hD, Nat.le_refl _, h0⟩, ?_⟩
    rintro i m H2 ⟨rfl, hi, θ2, A2, acc, xs, e2, ra2, hx, rx, nD2, hacc, p2⟩
    obtain ⟨r1, r2⟩ := rj θ2 H2 A2 i e2 ra2 (hl i acc A2 hi p2)
    by_cases hlt : i < src.n
    · obtain ⟨go, yl⟩ := r1 hlt
      refine .inr ⟨go, fun H' => ∃ θ' A' acc xs, Ext θ1 H1 θ' H' ∧ RA K θ' H' A' ∧ H' D = some (.lst xs) ∧ RDs K θ' H' xs acc ∧ D ∉ θ' ∧ acc.length ≤ i + 1 ∧ Pv (i + 1) acc A', fun H' q => ⟨src.n - (i + 1), by omega, rfl, hlt, q⟩, fun x H3 y => ?_⟩
      obtain ⟨d, hd, e3, ra3, r3⟩ := yl x H3 y
      have keepD : ∀ {θ' : List Addr} {H' : Hp}, Ext θ2 H2 θ' H' → H' D = some (.lst xs) ∧ D ∉ θ' := fun {θ' H'} e => ⟨e.stay _ _ nD2 hx, fun z => by
        rcases e.new D z with q | q
        · exact nD2 q
        · rw [hx] at q; cases q⟩
      have turn : liftG K gh x (L2.wipe σ vs) H3 (fun σ4 H4 => liftT K tt σ4 H4 fun b H5 => if b = true then lift K te σ4 H5 fun y H6 => ∃ acc, H6 D = some (.lst acc) ∧ acc.length < sizeLine ∧ ∃ θ' A' acc' xs, Ext θ1 H1 θ' (upd H6 D (.lst (acc ++ [y]))) ∧ RA K θ' (upd H6 D (.lst (acc ++ [y]))) A' ∧ (upd H6 D (.lst (acc ++ [y]))) D = some (.lst xs) ∧ RDs K θ' (upd H6 D (.lst (acc ++ [y]))) xs acc' ∧ D ∉ θ' ∧ acc'.length ≤ i + 1 ∧ Pv (i + 1) acc' A'
          else ∃ θ' A' acc xs, Ext θ1 H1 θ' H5 ∧ RA K θ' H5 A' ∧ H5 D = some (.lst xs) ∧ RDs K θ' H5 xs acc ∧ D ∉ θ' ∧ acc.length ≤ i + 1 ∧ Pv (i + 1) acc A') := by
        refine ⟨θ2, d, wipeH σh vs, A2, _, r3, (((rs.ext e1).ext e2).ext e3).wipe vs, ra3, hs i d acc A2 hlt hd p2, fun θ4 σ4 H4 σh4 A4 e4 rs4 ra4 w4 => ?_⟩
        refine ⟨θ4, σh4, A4, _, rs4, ra4, w4, fun θ5 H5 A5 b e5 ra5 w5 => ?_⟩
        have e25 := (e3.trans e4).trans e5
        cases b with
        | true =>
          refine iteT ?_
          refine ⟨θ5, σh4, A5, _, rs4.ext e5, ra5, w5.yes rfl, fun θ6 H6 A6 v d' e6 ra6 r6 w6 => ?_⟩
          have e26 := e25.trans e6
          obtain ⟨hx6, nD6⟩ := keepD e26
          have mu : Mut (H6 D) := by rw [hx6]; exact True.intro
          have l1 := (rx.ext e26).length
          have ez : sizeLine = 16777216 := sizeLine_eq
          refine ⟨xs, hx6, by omega, θ6, A6, acc ++ [d'], xs ++ [v], (e2.trans e26).off hD mu, ra6.off nD6 mu, upd_same, ((rx.ext e26).append (.cons r6 .nil)).stab0 (stab_put mu), nD6, by rw [List.length_append]; simp; omega, w6⟩
        | false =>
          refine iteF ?_
          obtain ⟨hx5, nD5⟩ := keepD e25
          exact ⟨θ5, A5, acc, xs, e2.trans e25, ra5, hx5, rx.ext e25, nD5, by omega, w5.no rfl⟩
      have kept := kp _ _ _ _ (lg _ _ _ _ turn)
      rw [wipe_wipe] at kept
      exact kept
    · have e : i = src.n := by omega
      subst e
      refine .inl ⟨r2 (Nat.le_refl _), ?_⟩
      refine k (θ2 ++ [D]) H2 (A2 ++ [.lst acc]) (.ref D) (.ptr A2.length) ?_ (ra2.into nD2 hx rx) (.ptr (by rw [← ra2.len]; simp)) (hd acc A2 p2 _ _ ⟨rfl, rfl⟩)
      have e12 := e1.trans e2
      obtain ⟨t, ht⟩ := e12.pre
      refine ⟨⟨t ++ [D], by rw [ht, List.append_assoc]⟩, fun b hb => ?_, e12.stay, e12.stab⟩
      rcases List.mem_append.mp hb with q | q
      · exact e12.new b q
      · rw [List.mem_singleton.mp q]
        by_cases c : D ∈ θ
        · exact .inl c
        · cases q' : H D with
          | none => exact .inr rfl
          | some o => have := e1.stay D o c q'; rw [hD] at this; cases this⟩
variable {elt iter : Expr} {ifs : List Expr} {scope : Scope} {own : List (Str × Nat)}
theorem ptsh_nil : PTs X [] (liftT X.K fun _ A Q => Q true A) := ⟨fun pins s σ H Q I ⟨θ, σh, A, Qh, rs, ra, w, k⟩ => pts_nil.run pins s σ H Q I (k _ _ _ _ (.refl _ _) ra w)⟩
theorem ptsh_one {c : Expr} {t : TTh} (h : PT X c (liftT X.K t)) : PTs X [c] (liftT X.K t) := pts_one h
theorem ph_lc {ti : TIh} {g : TG} {gh : TGh} {tt : TTh} {te : TEh} (lg : LG X.K g gh) (kp : Keeps (own.map (·.2)) g) (hc : X.calm = true) (hN : X.N.Nodup) (hi : PI X tg iter (liftI X.K ti)) (ok : BlkOk X.N X.env.scope scope own)
    (hg : ∀ (s : Shared) (H : Hp) (C : Addr) (cl : List (Str × Addr)) (fp : List Addr), PG (X.blk s H scope (compEnvC scope cl C X.env) fp) tg g) (ht : ∀ (s : Shared) (H : Hp) (C : Addr) (cl : List (Str × Addr)) (fp : List Addr), PTs (X.blk s H scope (compEnvC scope cl C X.env) fp) ifs (liftT X.K tt))
    (he : ∀ (s : Shared) (H : Hp) (C : Addr) (cl : List (Str × Addr)) (fp : List Addr), PE (X.blk s H scope (compEnvC scope cl C X.env) fp) elt (lift X.K te)) (hs : ∀ x, foldedSetIterable iter X.env x = pure x := by intro _; rfl) :
    PE X (.ListComp elt [⟨tg, iter, ifs, 0⟩] scope pos) (lift X.K (hLc ti gh tt te (own.map (·.2)))) := (pe_lc hc hN hi ok hg ht he hs).imp (lift_lc lg kp)
theorem psh_setLc {i : Nat} {y : Str} {py : Pos} {spos : Pos} {ti : TIh} {g : TG} {gh : TGh} {tt : TTh} {te : TEh} (lg : LG X.K g gh) (kp : Keeps (own.map (·.2)) g) (hc : X.calm = true) (hN : X.N.Nodup) (hy : X.N[i]? = some y) (hyl : X.env.scope.names.lookup y = some .local)
    (hsw : swapsWith (.ListComp elt [⟨tg, iter, ifs, 0⟩] scope pos) (some (.Name y py)) spos.line X.env = pure true) (hi : PI X tg iter (liftI X.K ti)) (ok : BlkOk X.N X.env.scope scope own)
    (hg : ∀ (s : Shared) (H : Hp) (C : Addr) (cl : List (Str × Addr)) (fp : List Addr), PG (X.blk s H scope (compEnvC scope cl C X.env) fp) tg g) (ht : ∀ (s : Shared) (H : Hp) (C : Addr) (cl : List (Str × Addr)) (fp : List Addr), PTs (X.blk s H scope (compEnvC scope cl C X.env) fp) ifs (liftT X.K tt))
    (he : ∀ (s : Shared) (H : Hp) (C : Addr) (cl : List (Str × Addr)) (fp : List Addr), PE (X.blk s H scope (compEnvC scope cl C X.env) fp) elt (lift X.K te)) (hs : ∀ x, foldedSetIterable iter X.env x = pure x := by intro _; rfl) :
    PS X (.Assign [.Name y py] (.ListComp elt [⟨tg, iter, ifs, 0⟩] scope pos) spos) (liftS X.K (hAsg (hLc ti gh tt te (own.map (·.2))) (hgName i))) :=
  (ps_setLc hc hN hy hyl hsw hi ok hg ht he hs).imp fun De σ H w => by
    obtain ⟨θ, σh, A, Dh, rs, ra, w, k⟩ := w
    refine lift_lc lg kp σ H _ ⟨θ, σh, A, _, rs, ra, w, fun θ1 H1 A1 v d e1 ra1 r1 w1 => ?_⟩
    exact k.nx _ _ _ _ _ e1 (RS.set (.some r1) i (rs.ext e1)) ra1 w1
end
end Rp

namespace Rp
open PySem PySem.Spec PyProof.Rows L2
/-! ### ranges, sums -/
section
variable {X : Cx}
/-- range(n), as a value -/
theorem call_range1 : CallR X (.type "range") (fun vs H Q => ∃ n : Int, vs = [V.int n] ∧ ∀ p, H p = none → Q (.ref p) (upd H p (.rng 0 n))) := by
  intro pins s σ H vs us Q I r h
  obtain ⟨n, rfl, q⟩ := h
  cases r with
  | cons r1 rr =>
    cases rr
    obtain ⟨t, rfl⟩ := r1
    refine call_range_1 ⟨.ref s.heap.objs.size, upd H s.heap.objs.size (.rng 0 n), I.laid (a := s.heap.objs.size) (o := .rng 0 n) (fun b o e => Heap.get?_push_of_some _ e) (Nat.le_refl _) ?_, rfl, q _ (I.hok.fresh (Nat.le_refl _))⟩
    exact ⟨_, _, _, Heap.get?_push_size _ rfl⟩
/-- len of a range -/
theorem call_lenRng : CallR X (.builtin "len") (fun vs H Q => ∃ (a : Addr) (n : Nat), vs = [V.ref a] ∧ H a = some (.rng 0 n) ∧ n < 2 ^ 62 ∧ Q (.int n) H) := by
  intro pins s σ H vs us Q I r h
  obtain ⟨a, n, rfl, ha, hn, q⟩ := h
  cases r with
  | cons r1 rr =>
    cases rr
    cases r1
    obtain ⟨t1, t2, t3, ho⟩ := I.hok a _ ha
    refine call_len_range (n := n) ho ?_ (by omega) ⟨.int n, H, I.tok _, ⟨_, rfl⟩, q⟩
    unfold Builtin.Range.rangeSize
    simp
    try omega
/-- sum of a tuple of whole numbers -/
theorem call_sumT (hc : X.calm = true) : CallR X (.builtin "sum") (fun vs H Q => ∃ (a : Addr) (ns : List Int), vs = [V.ref a] ∧ SqT X.K H a (ns.map V.int) ∧ Q (.int ns.sum) H) := by
  intro pins s σ H vs us Q I r h
  obtain ⟨a, ns, rfl, ha, q⟩ := h
  cases r with
  | cons r1 rr =>
    cases rr
    cases r1
    obtain ⟨its, rv, hl, _⟩ := I.tuple ha
    have hi := rv.ints
    obtain ⟨xs, hx⟩ := hi.allInts.items
    have hn : numsOf its.toArray.toList = ns := by rw [show its.toArray.toList = its from rfl, hi.numsOf]
    rw [hx] at hl hn
    rw [nums_intItems] at hn
    refine PySem.W.ktm_sumG (I.ok.hd hc) hl fun h' tk t' hk => ?_
    rw [preSum_eq, List.take_of_length_le (by simp), hn]
    exact ⟨.int ns.sum, H, I.kept hk, ⟨_, rfl⟩, q⟩
end
/-! ### len(x), x's own __len__ -/
section
variable {X : Cx} {CX : CXT} {k : Nat} {f C : Addr} {fd : FuncData} {ps : List Str} {sp : Sp} {E : XK}
def rLenI (C : Addr) (sp : Sp) (E : XK) : List V → Hp → VK → Prop := fun xs H Q => ∃ (a dx : Addr) (fs : List (Str × V)), xs = [.ref a] ∧ H a = some (.ins C dx fs) ∧ sp [.ref a] H (fun v H' => ∃ n : Nat, v = .int n ∧ n < 2 ^ 62 ∧ Q (.int n) H') E
theorem call_lenI (F : FnOk X.prog X.w X.K X.mg X.base CX k f fd ps sp) (hs : PySem.W.findIn X.K (.ref C) "__len__" = some (some (.ref f))) (hf : PySem.W.isFn X.K (.ref f) = true) (hb : L2.Binds X.K fd ps []) (hx : Passes CX X E) (hr : Room (k + 1) X.A) :
    CallR X (.builtin "len") (rLenI C sp E) := by
  intro pins s σ H vs us Q I r h
  obtain ⟨a, dx, fs, rfl, ha, hsp⟩ := h
  cases r with
  | cons r1 rr =>
    cases rr
    cases r1
    obtain ⟨mA, J, _⟩ := ins_get I.hok ha
    obtain ⟨od, J, _⟩ := J.look
    obtain ⟨m, hF⟩ := I.fr
    have e0 : Env0 X.prog X.w X.K X.mg X.base X.A.in1 X.stack s H := by
      have e := I.env0
      exact ⟨e.frames, e.mod, e.bs, e.bsz, e.funs, e.frf, e.hok, e.bare⟩
    have hl := F.len _ _ _ _ hsp
    refine PySem.W.len_K hF I.ok.mod.kin J hs hf (wpAny_call (codeAny_mono (F.run X.A.in1 X.stack s H ⟨[.ref a], []⟩ [.ref a] [.ref a] _ E hr.in1 e0 (by
      have := hb s [.ref a] I.kIn (by simpa using hl)
      simpa using this) (.cons rfl .nil) hsp) fun r s' hq => ?_))
    cases r with
    | error e => exact hx pins σ H s e s' I hq
    | ok fl =>
      cases fl with
      | ret w =>
        obtain ⟨z, H', I', rz, n, ez, hn, q⟩ := I.after hq
        subst ez
        obtain ⟨t, rfl⟩ := rz
        show PySem.W.LenBack _ _ _
        exact ⟨⟨by omega, by omega⟩, .int n, H', I'.tok _, ⟨_, rfl⟩, q⟩
      | next => exact False.elim hq
      | brk => exact False.elim hq
      | cont => exact False.elim hq
end
/-! ### a def that may be called while an error is handled, too; nothing is being shown around it -/
structure RoomA (k : Nat) (A : Around) : Prop where
  dp : A.depth + 3 * k + 5 < recursionLimit
  un : A.units + 16 * k + 200 < cLine
theorem RoomA.of {k : Nat} {A : Around} (r : Room k A) : RoomA k A := ⟨r.dp, r.un⟩
structure FnA (P : Program) (w : World) (K : PySem.W.Frag) (mg : Str → Option Value) (base : Heap) (CX : CXT) (k : Nat) (f : Addr) (fd : FuncData) (ps : List Str) (sp : Sp) : Prop where
  len : ∀ vs H Q E, sp vs H Q E → vs.length = ps.length
  go : ∀ (A : Around) (outer : List Env) (s : Shared) (H : Hp) (args : Args) (us : List Value) (vs : List V) (Q : VK) (E : XK), A.guards = some [] → RoomA k A → Env0 P w K mg base A outer s H →
    BindsTo s fd args (ps.zip us) → Vals vs us → sp vs H Q E → codeAny (model P w) A (.call (.ref f) args) (CR CX outer P w H s Q E) s
/-- the body's context -/
def cxA (CX : CXT) (P : Program) (w : World) (K : PySem.W.Frag) (mg : Str → Option Value) (base : Heap) (N : List Str) (qual : Str) (scope : Scope) (f : Addr) (cd : Value) (A : Around) (outer : List Env) (s : Shared) (H : Hp) (E : XK) : Cx :=
  { cxOf CX P w K mg base N qual scope f cd A outer s H E with calm := false }
section
variable {P : Program} {w : World} {K : PySem.W.Frag} {mg : Str → Option Value} {base : Heap} {CX : CXT}
theorem startA {N ps : List Str} {qual : Str} {scope : Scope} {f : Addr} {cd : Value} {A : Around} {outer : List Env} {s s1 : Shared} {H : Hp} {E : XK} {us : List Value} {vs : List V}
    (S : FnScope N ps scope) (e0 : Env0 P w K mg base A outer s H) (hl : vs.length = ps.length) (r : Vals vs us)
    (x : InCallC s s.heap.objs.size (bindL (envOfC qual scope s.heap.objs.size f cd).kindOf (ps.zip us) fun _ => none) (cellsFrom (s.heap.objs.size + 1) scope.names []) (bindC (envOfC qual scope s.heap.objs.size f cd).kindOf (ps.zip us) fun _ => none) s1) :
    Inv (cxA CX P w K mg base N qual scope f cd A outer s H E) [] (start N vs) H s1 := by
  have I := inv_start (CX := CX) (A := { A with handled := none }) (E := E) S rfl (⟨e0.frames, e0.mod, e0.bs, e0.bsz, e0.funs, e0.frf, e0.hok, e0.bare⟩ : Env0 P w K mg base { A with handled := none } outer s H) hl r x
  have o := I.ok
  exact ⟨⟨o.mod, o.kind, o.glob, o.blt, o.above, o.inj, o.has, o.cab, (fun z => Bool.noConfusion (show false = true from z)), o.frames, o.stk, o.exf, o.bs, o.bsz, o.noex, o.exfs, o.funs, o.frf⟩, I.os, I.bare, I.base, I.loc, I.cell, I.free, I.freeC, I.pin, I.hok, I.len⟩
theorem okA {x qual : Str} {st : Stmt} {f : Addr} {fd : FuncData} {N ps : List Str} {k : Nat} {sp : Sp} (F : Fun K x qual st f fd) (S : FnScope N ps (defScope st)) (len : ∀ vs H Q E, sp vs H Q E → vs.length = ps.length)
    (hb : ∀ (cdv : Value) (A : Around) (outer : List Env) (s : Shared) (H : Hp) (vs : List V) (Q : VK) (E : XK), (A.deeper (envOfC qual (defScope st) s.heap.objs.size f cdv)).guards = some [] → (A.deeper (envOfC qual (defScope st) s.heap.objs.size f cdv)).units + 200 < cLine → sp vs H Q E →
      ∃ t, PSs (cxA CX P w K mg base N qual (defScope st) f cdv A outer s H E) (defBody st) t ∧ t { nx := fun _ H' => Q .non H', rt := Q } (start N vs) H) : FnA P w K mg base CX (k + 1) f fd ps sp := by
  obtain ⟨oc, od, kV, doc, pm, an, cdv, ct, osl, rfl, lk, hcd⟩ := F.ex
  refine ⟨len, fun A outer s H args us vs Q E gA room en bi rel want => ?_⟩
  have kept : ∀ b o, base.get? b = some o → s.heap.get? b = some o := fun b o e => (en.bs b o e).1
  have inK : K.In s.heap := en.mod.kin.keeps kept
  refine codeAny_call_function (by have := room.dp; omega) (inK _ _ lk) rfl S.co S.gen rfl (PySem.W.codeRec_of inK hcd) (bi _ _ _ _ ?_)
  refine wpAny_newFunctionEnv_cells S.kind (fun y hy => ?_) fun env he s1 made => ?_
  · rcases S.par y.1 (List.of_mem_zip (show (y.1, y.2) ∈ ps.zip us from hy)).1 with q | q
    · exact .inl q
    · exact .inr ⟨q, PySem.W.cellsFrom_some _ _ _ (.inl q)⟩
  subst he
  refine ⟨(en.mod.nolimit.keeps kept).keeps made.toInCall.keep, codeAny_func ?_⟩
  obtain ⟨t, body, reads⟩ := hb cdv A outer s H vs Q E (deeper_guards gA) (by have := room.un; show A.units + 3 + 200 < _; omega) want
  refine wpAny_mono (body.run [] s1 (start N vs) H _ (startA S en (len _ _ _ _ want) rel made) reads) (fun fl s' hs => ?_) fun e s' hs => hs
  cases fl with
  | ret u =>
    obtain ⟨v, σ', H', J, rv, q⟩ := hs
    exact ⟨v, H', J.os, J.bare, J.base, J.hok, rv, q⟩
  | next =>
    obtain ⟨σ', H', J, q⟩ := hs
    exact ⟨V.non, H', J.os, J.bare, J.base, J.hok, rfl, q⟩
  | brk => exact absurd hs (fun ⟨_, _, _, z⟩ => (z : False))
  | cont => exact absurd hs (fun ⟨_, _, _, z⟩ => (z : False))
end
/-! ### repr(x), {x!r} -/
section
variable {X : Cx} {CX : CXT} {k : Nat} {f C : Addr} {fd : FuncData} {ps : List Str} {sp : Sp} {E : XK}
/-- {x!r} of small data -/
def tFmtRD (K : PySem.W.Frag) (te : TE) : TE := fun σ H Q => te σ H fun x H1 => ∃ (a : Addr) (d : PyData), x = .ref a ∧ Dp K H1 x d ∧ Shw d ∧ Q (.str d.shown) H1
theorem pe_fmtRD {e : Expr} {te : TE} {pos : Pos} (gA : X.A.guards = some []) (hu : X.A.units + 64 < cLine) (he : PE X e te) : PE X (.FormattedValue e 114 none pos) (tFmtRD X.K te) := by
  refine ⟨fun pins s σ H Q I h => ?_⟩
  refine wpAny_FormattedValue_repr (thn (he.run pins s σ H _ I h) fun v s1 hv => ?_)
  obtain ⟨x, H1, I1, r1, a, d, rfl, hd, hw, q⟩ := hv
  obtain ⟨as, rd⟩ := Dp.reads I1 d (.ref a) _ hd r1
  cases r1
  have dp := hw.dp
  refine pyReprObj_of_reads rd hw.sh (PyData.noDict_hsm hw.nd) gA (by omega) (fun _ _ z => z) (fun h' u tk kp => ?_) hw.sz
  exact wpAny_formatField_str ⟨.str d.shown, H1, I1.kept kp, ⟨_, rfl⟩, q⟩ ⟨.str d.shown, H1, (I1.kept (t' := tk) kp).tok _, ⟨_, rfl⟩, q⟩ hw.sz
def rReprI (C : Addr) (sp : Sp) (E : XK) : List V → Hp → VK → Prop := fun xs H Q => ∃ (a dx : Addr) (fs : List (Str × V)), xs = [.ref a] ∧ H a = some (.ins C dx fs) ∧ sp [.ref a] H (fun v H' => ∃ t : Str, v = .str t ∧ Q (.str t) H') E
theorem call_reprI (F : FnA X.prog X.w X.K X.mg X.base CX k f fd ps sp) (hs : PySem.W.findIn X.K (.ref C) "__repr__" = some (some (.ref f))) (hf : PySem.W.isFn X.K (.ref f) = true) (hb : L2.Binds X.K fd ps []) (hx : Passes CX X E) (gA : X.A.guards = some []) (hr : RoomA (k + 1) X.A) :
    CallR X (.builtin "repr") (rReprI C sp E) := by
  intro pins s σ H vs us Q I r h
  obtain ⟨a, dx, fs, rfl, ha, hsp⟩ := h
  cases r with
  | cons r1 rr =>
    cases rr
    cases r1
    obtain ⟨mA, J, _⟩ := ins_get I.hok ha
    obtain ⟨od, J, _⟩ := J.look
    obtain ⟨m, hF⟩ := I.fr
    have e0 : Env0 X.prog X.w X.K X.mg X.base X.A.in1 X.stack s H := by
      have e := I.env0
      exact ⟨e.frames, e.mod, e.bs, e.bsz, e.funs, e.frf, e.hok, e.bare⟩
    have hl := F.len _ _ _ _ hsp
    have d1 := hr.dp
    have u1 := hr.un
    refine PySem.W.repr_K (by show X.A.units + 1 < _; omega) hF I.ok.mod.kin J hs hf (wpAny_call (codeAny_mono (F.go X.A.in1 X.stack s H ⟨[.ref a], []⟩ [.ref a] [.ref a] _ E gA ⟨by show X.A.depth + 3 * k + 5 < _; omega, by show X.A.units + 1 + 16 * k + 200 < _; omega⟩ e0 (by
      have := hb s [.ref a] I.kIn (by simpa using hl)
      simpa using this) (.cons rfl .nil) hsp) fun r s' hq => ?_))
    cases r with
    | error e => exact hx pins σ H s e s' I hq
    | ok fl =>
      cases fl with
      | ret w =>
        obtain ⟨z, H', I', rz, t, ez, q⟩ := I.after hq
        subst ez
        obtain ⟨tk, rfl⟩ := rz
        show PySem.W.StrBack _ _ _
        exact ⟨.str t, H', I', ⟨_, rfl⟩, q⟩
      | next => exact False.elim hq
      | brk => exact False.elim hq
      | cont => exact False.elim hq
/-- a dict of small numbers -/
def DkAt (H : Hp) (v : V) (d : PyData) : Prop := ∃ (a : Addr) (ns : List (Int × Int)), v = .ref a ∧ H a = some (.dK (ns.map fun p => (Sum.inl p.1, V.int p.2))) ∧ d = .dict (ns.map fun p => (.int p.1, .int p.2))
theorem dk_pairs {h : Heap} : ∀ {ns : List (Int × Int)} {vs : List (Key × Value)}, KV (ns.map fun p => ((Sum.inl p.1 : Key), V.int p.2)) vs → ∃ bs, PyProof.V.PairsRead h (fun k : Key => match k with | .inl i => PyData.int i | .inr x => PyData.str x) vs (ns.map fun p => (.int p.1, .int p.2)) bs
  | [], _, r => by
    cases r
    exact ⟨_, .nil⟩
  | p :: ns, _, r => by
    cases r with
    | @cons _ q _ qs e t =>
      obtain ⟨qk, qv⟩ := q
      obtain ⟨e1, tk, e2⟩ := e
      obtain ⟨bs, ih⟩ := dk_pairs (h := h) t
      simp only at e1 e2
      subst e1 e2
      exact ⟨_, .cons (.int _ _) ih⟩
theorem dk_reads {pins : List (Addr × Obj)} {σ : L2.St} {H : Hp} {s : Shared} {v : V} {d : PyData} {u : Value} (I : Inv X pins σ H s) (h : DkAt H v d) (r : RelV v u) : ∃ a as, u = .ref a ∧ Reads s.heap (.ref a) d as ∧ sysModules ∉ as := by
  obtain ⟨a, ns, rfl, ha, rfl⟩ := h
  cases r
  obtain ⟨_, hne, vs, rel, dd⟩ := I.hok a _ ha
  obtain ⟨bs, pr⟩ := dk_pairs (h := s.heap) rel
  have nb : bs = [] := by
    clear dd rel
    generalize hD : (ns.map fun p => (PyData.int p.1, PyData.int p.2)) = D at pr
    have : ∀ {kvs : List (Key × Value)} {D : List (PyData × PyData)} {bs : List Addr} {ns : List (Int × Int)}, (ns.map fun p => (PyData.int p.1, PyData.int p.2)) = D → PyProof.V.PairsRead s.heap (fun k : Key => match k with | .inl i => PyData.int i | .inr x => PyData.str x) kvs D bs → bs = [] := by
      intro kvs D bs ns e p
      induction p generalizing ns with
      | nil => rfl
      | @cons k' v' d' as kvs D bs r _ ih =>
        cases ns with
        | nil => cases e
        | cons n ns =>
          injection e with e1 e2
          injection e1 with _ e3
          subst e3
          cases r
          rw [ih e2]
          rfl
    exact this hD pr
  subst nb
  refine ⟨a, [a], rfl, PyProof.V.reads_dictOf (fun k key hk => ?_) dd pr, fun z => ?_⟩
  · rcases keyIs_shape hk with ⟨i, t, rfl, rfl⟩ | ⟨x, t, rfl, rfl⟩
    · exact .int _ _
    · exact .str _ _
  · rw [List.mem_singleton.mp z] at hne
    simp at hne
end
end Rp

/-! Calls, defs, built-ins, attributes over data. -/
namespace Rp
open PySem PySem.Spec PyProof.Rows L2
abbrev Sph := List D → OH → KH → Prop
def spOf (K : PySem.W.Frag) (n : Nat) (sp : Sph) : Sp := fun vs H Q _ => vs.length = n ∧ ∃ θ ds A Qh, RDs K θ H vs ds ∧ RA K θ H A ∧ sp ds A Qh ∧ Kt K θ H Q Qh
/-- a call is asked -/
structure Ask (sp : Sph) (ds : List D) (A : OH) (Q : KH) : Prop where
  h : sp ds A Q
def nArgs (n m : Nat) (p : Prop) : Prop := match Nat.beq n m with | true => p | false => False
theorem nArgs_ok {n m : Nat} {p : Prop} (h : nArgs n m p) : n = m ∧ p := by
  unfold nArgs at h
  split at h
  · rename_i e
    exact ⟨Nat.eq_of_beq_eq_true e, h⟩
  · exact h.elim
def hCall (n : Nat) (sp : Sph) (t : TAh) : TEh := fun σ A Q => t σ A fun ds A1 => nArgs ds.length n (Ask sp ds A1 Q)
section
variable {X : Cx} {CX : CXT} {k n : Nat} {f C : Addr} {fd : FuncData} {ps : List Str} {sp : Sph} {x m : Str} {p pos apos : Pos} {e o : Expr} {es : List Expr} {ta : TEh} {t : TAh}
theorem ph_call (F : FnG X.prog X.w X.K X.mg X.base CX0 k f fd ps (spOf X.K n sp)) (gA : X.A.guards = some []) (room : Room k X.A) (hg : Gl X x) (hm : X.mg x = some (.ref f)) (hk : PySem.W.keepIn X.K (.ref f) = true) (hb : L2.Binds X.K fd ps [])
    (ha : PA X (e :: es) (liftA X.K t)) (hdb : (x == ("__debug__" : Str)) = false := by decide) (hst : starEach (e :: es) X.env = (false, eval e X.env) :: starEach es X.env := by rfl)
    (hpl : (backTo pos (starEach es X.env)).any (·.1) = false := by rfl) : PE X (.Call (.Name x p) (e :: es) [] pos) (lift X.K (hCall n sp t)) :=
  (pe_callG (E := fun _ _ _ => False) F gA room hg hm hk hb pass0 ha hdb hst hpl).imp fun σ H Q ⟨θ, σh, A, Qh, rs, ra, w, k⟩ => ⟨θ, σh, A, _, rs, ra, w, fun θ1 H1 A1 vs ds e1 ra1 r1 w1 => by
    obtain ⟨hn, w1⟩ := nArgs_ok w1
    exact ⟨by rw [r1.length]; exact hn, θ1, ds, A1, Qh, r1, ra1, w1.h, k.ext e1⟩⟩
theorem ph_callO (F : FnOk X.prog X.w X.K X.mg X.base CX0 k f fd ps (spOf X.K n sp)) (room : Room k X.A) (hg : Gl X x) (hm : X.mg x = some (.ref f)) (hk : PySem.W.keepIn X.K (.ref f) = true) (hb : L2.Binds X.K fd ps [])
    (ha : PA X (e :: es) (liftA X.K t)) (hdb : (x == ("__debug__" : Str)) = false := by decide) (hst : starEach (e :: es) X.env = (false, eval e X.env) :: starEach es X.env := by rfl)
    (hpl : (backTo pos (starEach es X.env)).any (·.1) = false := by rfl) : PE X (.Call (.Name x p) (e :: es) [] pos) (lift X.K (hCall n sp t)) :=
  (pe_call (E := fun _ _ _ => False) F room hg hm hk hb .nil pass0 ha hdb hst hpl).imp fun σ H Q ⟨θ, σh, A, Qh, rs, ra, w, k⟩ => ⟨θ, σh, A, _, rs, ra, w, fun θ1 H1 A1 vs ds e1 ra1 r1 w1 => by
    obtain ⟨hn, w1⟩ := nArgs_ok w1
    rw [List.append_nil]
    exact ⟨by rw [r1.length]; exact hn, θ1, ds, A1, Qh, r1, ra1, w1.h, k.ext e1⟩⟩
/-- o.m(..) -/
def hMeth (C : Addr) (m : Str) (n : Nat) (sp : Sph) (ta : TEh) (t : TAh) : TEh := fun σ A Q => ta σ A fun x A1 => match x with
  | .ptr i => ∃ fs, A1[i]? = some (.ins C fs) ∧ fs.lookup m = none ∧ t σ A1 fun ds A2 => nArgs (ds.length + 1) n (Ask sp (.ptr i :: ds) A2 Q)
  | _ => False
theorem ph_meth {pl : Sem Bool} (he : PE X o (lift X.K ta)) (c : Cls X.K C) (hm : Meth X.K C m f) (F : FnOk X.prog X.w X.K X.mg X.base CX0 k f fd ps (spOf X.K n sp)) (hr : Room k X.A) (hb : L2.Binds X.K fd ps []) (ha : PA X (e :: es) (liftA X.K t))
    (hst : starEach (e :: es) X.env = (false, eval e X.env) :: starEach es X.env := by rfl) (hpl : (backTo pos (starEach es X.env)).any (·.1) = false := by rfl)
    (ht : eval (.Call (.Attribute o m apos) (e :: es) [] pos) X.env = (do
      let ov ← eval o X.env
      standAt apos.atName
      let (f, first) ← holding [ov] (getMethod ov m pl)
      callWith pos f first (backTo pos (starEach (e :: es) X.env)) (backToKw pos (keywordEach [] X.env))) := by rfl) :
    PE X (.Call (.Attribute o m apos) (e :: es) [] pos) (lift X.K (hMeth C m n sp ta t)) :=
  (pe_meth (pl := pl) (E := fun _ _ _ => False) he c hm F hr hb .nil pass0 ha hst hpl ht).imp fun σ H Q ⟨θ, σh, A, Qh, rs, ra, w, k⟩ => ⟨θ, σh, A, _, rs, ra, w, fun θ1 H1 A1 v d e1 ra1 r1 w1 => by
    split at w1
    · obtain ⟨fs, h1, h2, w1⟩ := w1
      cases r1 with
      | ptr hi =>
        obtain ⟨dx, xs, g, _, rf⟩ := ra1.ok _ _ _ hi h1
        refine ⟨_, dx, xs, rfl, g, rf.lookup_none h2, θ1, σh, A1, _, rs.ext e1, ra1, w1, fun θ2 H2 A2 vs ds e2 ra2 r2 w2 => ?_⟩
        obtain ⟨hn, w2⟩ := nArgs_ok w2
        rw [List.append_nil]
        exact ⟨by rw [List.length_cons, r2.length]; exact hn, θ2, _, A2, Qh, .cons ((RD.ptr hi).ext e2) r2, ra2, w2.h, (k.ext e1).ext e2⟩
    · exact w1.elim⟩
theorem ph_meth0 {pl : Sem Bool} (he : PE X o (lift X.K ta)) (c : Cls X.K C) (hm : Meth X.K C m f) (F : FnOk X.prog X.w X.K X.mg X.base CX0 k f fd ps (spOf X.K n sp)) (hr : Room k X.A) (hb : L2.Binds X.K fd ps [])
    (ht : eval (.Call (.Attribute o m apos) [] [] pos) X.env = (do
      let ov ← eval o X.env
      standAt apos.atName
      let (f, first) ← holding [ov] (getMethod ov m pl)
      callWith pos f first (backTo pos (starEach [] X.env)) (backToKw pos (keywordEach [] X.env))) := by rfl) :
    PE X (.Call (.Attribute o m apos) [] [] pos) (lift X.K (hMeth C m n sp ta hNil)) :=
  (pe_meth0 (pl := pl) (E := fun _ _ _ => False) he c hm F hr hb .nil pass0 ht).imp fun σ H Q ⟨θ, σh, A, Qh, rs, ra, w, k⟩ => ⟨θ, σh, A, _, rs, ra, w, fun θ1 H1 A1 v d e1 ra1 r1 w1 => by
    split at w1
    · obtain ⟨fs, h1, h2, w1⟩ := w1
      cases r1 with
      | ptr hi =>
        obtain ⟨dx, xs, g, _, rf⟩ := ra1.ok _ _ _ hi h1
        obtain ⟨hn, w2⟩ := nArgs_ok w1
        exact ⟨_, dx, xs, rfl, g, rf.lookup_none h2, hn, θ1, _, A1, Qh, .cons (.ptr hi) .nil, ra1, w2.h, k.ext e1⟩
    · exact w1.elim⟩
/-- C(..): a new instance, then __init__ -/
def hMake (C : Addr) (n : Nat) (sp : Sph) (t : TAh) : TEh := fun σ A Q => t σ A fun ds A1 => nArgs (ds.length + 1) n (∀ i A2, New A1 i (.ins C []) A2 → Ask sp (.ptr i :: ds) A2 fun r A3 => r = .v .non ∧ Q (.ptr i) A3)
theorem ph_make (M : Mk X.K C f) (F : FnOk X.prog X.w X.K X.mg X.base CX0 k f fd ps (spOf X.K n sp)) (hr : Room (k + 1) X.A) (hg : Gl X x) (hm : X.mg x = some (.ref C)) (hb : L2.Binds X.K fd ps [])
    (ha : PA X (e :: es) (liftA X.K t)) (hdb : (x == ("__debug__" : Str)) = false := by decide) (he : starEach (e :: es) X.env = (false, eval e X.env) :: starEach es X.env := by rfl) (hpl : (backTo pos (starEach es X.env)).any (·.1) = false := by rfl) :
    PE X (.Call (.Name x p) (e :: es) [] pos) (lift X.K (hMake C n sp t)) :=
  (pe_make (E := fun _ _ _ => False) M F hr hg hm hb .nil pass0 ha hdb he hpl).imp fun σ H Q ⟨θ, σh, A, Qh, rs, ra, w, k⟩ => ⟨θ, σh, A, _, rs, ra, w, fun θ1 H1 A1 vs ds e1 ra1 r1 w1 x dx hx hdx ne => by
    obtain ⟨hn, w1⟩ := nArgs_ok w1
    have hs : Same H1 (upd (upd H1 dx (.own x)) x (.ins C dx [])) := fun b u e => by rw [upd_ne (ne_of_none e hx), upd_ne (ne_of_none e hdx)]; exact e
    have hi : (θ1 ++ [x])[A1.length]? = some x := by rw [← ra1.len]; simp
    have e2 : Ext θ1 H1 (θ1 ++ [x]) (upd (upd H1 dx (.own x)) x (.ins C dx [])) := .add hx hs
    rw [List.append_nil]
    refine ⟨by rw [List.length_cons, r1.length]; exact hn, θ1 ++ [x], .ptr A1.length :: ds, A1 ++ [.ins C []], _, .cons (.ptr hi) (r1.ext e2), ra1.add (o := .ins C []) hx hs ⟨dx, [], upd_same, by rw [upd_ne ne, upd_same], .nil⟩, (w1 _ _ ⟨rfl, rfl⟩).h, fun θ3 H3 A3 v d e3 ra3 r3 q3 => ?_⟩
    obtain ⟨rfl, q⟩ := q3
    cases r3
    exact ⟨rfl, k _ _ _ _ _ ((e1.trans e2).trans e3) ra3 ((RD.ptr hi).ext e3) q⟩⟩
end
/-! ### a def by its body -/
section
variable {P : Program} {w : World} {K : PySem.W.Frag} {mg : Str → Option Value} {base : Heap}
/-- what is wanted behind a def -/
def endH (Q : KH) : Eh := { nx := fun _ A => Q (.v .non) A, rt := Q }
theorem body_h {ps N : List Str} {sp : Sph} {t : TSh} {vs : List V} {H : Hp} {Q : VK} {E : XK} (h : spOf K ps.length sp vs H Q E) (go : ∀ ds A Q, sp ds A Q → t (endH Q) (startH N.length ds) A) : liftS K t { nx := fun _ H' => Q .non H', rt := Q } (L2.start N vs) H := by
  obtain ⟨_, θ, ds, A, Qh, r, ra, w, k⟩ := h
  exact ⟨θ, _, A, endH Qh, .start r, ra, go ds A Qh w, ⟨fun θ' σ' H' σh' A' e rs' ra' q => k _ _ _ _ _ e ra' (.v _) q, k, fun θ' σ' H' σh' A' e rs' ra' q => q, fun θ' σ' H' σh' A' e rs' ra' q => q⟩⟩
theorem okH {x qual : Str} {st : Stmt} {f : Addr} {fd : FuncData} {N ps : List Str} {k : Nat} {sp : Sph} (F : Fun K x qual st f fd) (S : FnScope N ps (defScope st))
    (hb : ∀ (cdv : Value) (A : Around) (outer : List Env) (s : Shared) (H : Hp) (E : XK), Room k (A.deeper (envOfC qual (defScope st) s.heap.objs.size f cdv)) →
      ∃ t, PSs (cxOf CX0 P w K mg base N qual (defScope st) f cdv A outer s H E).nox (defBody st) (liftS K t) ∧ ∀ ds A Q, sp ds A Q → t (endH Q) (startH N.length ds) A) : FnOk P w K mg base CX0 (k + 1) f fd ps (spOf K ps.length sp) :=
  F.ok S (fun vs H Q E h => h.1) fun cdv A outer s H vs Q E room h => by
    obtain ⟨t, body, go⟩ := hb cdv A outer s H E room
    exact ⟨_, body, body_h h go⟩
theorem okGH {x qual : Str} {st : Stmt} {f : Addr} {fd : FuncData} {N ps : List Str} {k : Nat} {sp : Sph} (F : Fun K x qual st f fd) (S : FnScope N ps (defScope st))
    (hb : ∀ (cdv : Value) (A : Around) (outer : List Env) (s : Shared) (H : Hp) (E : XK), (A.deeper (envOfC qual (defScope st) s.heap.objs.size f cdv)).guards = some [] → Room k (A.deeper (envOfC qual (defScope st) s.heap.objs.size f cdv)) →
      ∃ t, PSs (cxOf CX0 P w K mg base N qual (defScope st) f cdv A outer s H E).nox (defBody st) (liftS K t) ∧ ∀ ds A Q, sp ds A Q → t (endH Q) (startH N.length ds) A) : FnG P w K mg base CX0 (k + 1) f fd ps (spOf K ps.length sp) :=
  okG F S (fun vs H Q E h => h.1) fun cdv A outer s H vs Q E gA room h => by
    obtain ⟨t, body, go⟩ := hb cdv A outer s H E gA room
    exact ⟨_, body, body_h h go⟩
end
/-- the law's own promise -/
def spLawH : Sph := fun ds A Q => ∃ ns : List Int, ds = [.scr ns] ∧ ns.length ≤ 63 ∧ ∀ A', Q (.v (.bl true)) A'
theorem lawH {K : PySem.W.Frag} {H : Hp} {a : Addr} {ns : List Int} (hn : ns.length ≤ 63) (on : Only H) (hS : SqL K H a (ns.map V.int)) : spOf K 1 spLawH [.ref a] H (fun v _ => v = .bl true) fun _ _ _ => False := by
  have hf : SqF K H a (ns.map V.int) := by
    rcases hS with (h | h) | h
    · rcases on a with q | ⟨o, xs, q⟩
      · rw [h] at q; cases q
      · rw [h] at q; cases q
    · exact .inl h
    · exact .inr h
  refine ⟨rfl, [], [.scr ns], [], fun d _ => d = .v (.bl true), .cons (.scr hf) .nil, ⟨rfl, List.nodup_nil, fun i a o h => by simp at h⟩, ⟨ns, rfl, hn, fun _ => rfl⟩, fun θ' H' A' v d e ra r q => ?_⟩
  subst q
  cases r
  rfl
/-! ### built-ins -/
def LC (K : PySem.W.Frag) (r : List V → Hp → VK → Prop) (rh : List D → OH → KH → Prop) : Prop := ∀ θ H A xs ds Q Qh, RDs K θ H xs ds → RA K θ H A → rh ds A Qh → Kt K θ H Q Qh → r xs H Q
def hCB (rh : List D → OH → KH → Prop) (t : TAh) : TEh := fun σ A Q => t σ A fun ds A1 => rh ds A1 Q
section
variable {X : Cx} {x : Str} {p pos : Pos} {e : Expr} {es : List Expr} {t : TAh} {id T : String} {r : List V → Hp → VK → Prop} {rh : List D → OH → KH → Prop}
theorem lift_cb {K : PySem.W.Frag} (l : LC K r rh) (σ : L2.St) (H : Hp) (Q : VK) : lift K (hCB rh t) σ H Q → tCB r (liftA K t) σ H Q := fun ⟨θ, σh, A, Qh, rs, ra, w, k⟩ =>
  ⟨θ, σh, A, _, rs, ra, w, fun θ1 H1 A1 vs ds e1 ra1 r1 w1 => l _ _ _ _ _ _ _ r1 ra1 w1 (k.ext e1)⟩
theorem ph_callB (l : LC X.K r rh) (hc : CallR X (.builtin id) r) (hg : Gl X x) (hm : X.mg x = none) (hv : bootBuiltins x = some (.builtin id)) (ha : PA X (e :: es) (liftA X.K t)) (hn : x ≠ "__name__" := by decide) (hdb : (x == ("__debug__" : Str)) = false := by decide)
    (he : starEach (e :: es) X.env = (false, eval e X.env) :: starEach es X.env := by rfl) (hpl : (backTo pos (starEach es X.env)).any (·.1) = false := by rfl) : PE X (.Call (.Name x p) (e :: es) [] pos) (lift X.K (hCB rh t)) :=
  (pe_callB hc hg hm hv ha hn hdb he hpl).imp (lift_cb l)
theorem ph_callTy (l : LC X.K r rh) (hc : CallR X (.type T) r) (hg : Gl X x) (hm : X.mg x = none) (hv : bootBuiltins x = some (.type T)) (ha : PA X (e :: es) (liftA X.K t)) (hn : x ≠ "__name__" := by decide) (hdb : (x == ("__debug__" : Str)) = false := by decide)
    (he : starEach (e :: es) X.env = (false, eval e X.env) :: starEach es X.env := by rfl) (hpl : (backTo pos (starEach es X.env)).any (·.1) = false := by rfl) : PE X (.Call (.Name x p) (e :: es) [] pos) (lift X.K (hCB rh t)) :=
  (pe_callTy hc hg hm hv ha hn hdb he hpl).imp (lift_cb l)
variable {K : PySem.W.Frag}
theorem RDs.one {θ : List Addr} {H : Hp} {xs : List V} {d : D} (r : RDs K θ H xs [d]) : ∃ x, xs = [x] ∧ RD K θ H x d := by
  cases r with
  | cons h t => cases t; exact ⟨_, rfl, h⟩
theorem RDs.two {θ : List Addr} {H : Hp} {xs : List V} {d e : D} (r : RDs K θ H xs [d, e]) : ∃ x y, xs = [x, y] ∧ RD K θ H x d ∧ RD K θ H y e := by
  cases r with
  | cons h t =>
    obtain ⟨y, rfl, hy⟩ := t.one
    exact ⟨_, _, rfl, h, hy⟩
def hLen : List D → OH → KH → Prop
  | [.tup es], A, Q => Q (.v (.int es.length)) A
  | [.ptr k], A, Q => ∃ es, A[k]? = some (.lst es) ∧ Q (.v (.int es.length)) A
  | [.scr ns], A, Q => Q (.v (.int ns.length)) A
  | [.v (.str y)], A, Q => y.length ≤ sizeLine ∧ Q (.v (.int y.length)) A
  | _, _, _ => False
theorem l_len : LC K (fun xs H Q => ∃ x n, xs = [x] ∧ LenV K x H n ∧ Q (.int n) H) hLen := by
  intro θ H A xs ds Q Qh r ra w k
  unfold hLen at w
  split at w
  · obtain ⟨x, rfl, rx⟩ := r.one
    cases rx with
    | tup hs r' => exact ⟨_, _, rfl, .inr ⟨_, hs, rfl⟩, by rw [r'.length]; exact k.here ra (.v _) w⟩
  · obtain ⟨es, h0, q⟩ := w
    obtain ⟨x, rfl, rx⟩ := r.one
    cases rx with
    | ptr hi =>
      obtain ⟨xs, g, r'⟩ := ra.ok _ _ _ hi h0
      exact ⟨_, _, rfl, .inl ⟨_, SqL.of g, rfl⟩, by rw [r'.length]; exact k.here ra (.v _) q⟩
  · obtain ⟨x, rfl, rx⟩ := r.one
    cases rx with
    | scr hs => exact ⟨_, _, rfl, .inl ⟨_, hs.l, rfl⟩, by rw [List.length_map]; exact k.here ra (.v _) w⟩
  · obtain ⟨x, rfl, rx⟩ := r.one
    cases rx
    exact ⟨_, _, rfl, ⟨w.1, rfl⟩, k.here ra (.v _) w.2⟩
  · exact w.elim
def hInt : List D → OH → KH → Prop
  | [.v (.int i)], A, Q => Q (.v (.int i)) A
  | [.v (.bl b)], A, Q => Q (.v (.int (if b = true then 1 else 0))) A
  | _, _, _ => False
theorem l_int : LC K (fun xs H Q => (∃ i, xs = [.int i] ∧ Q (.int i) H) ∨ ∃ k, xs = [.bl k] ∧ Q (.int (if k then 1 else 0)) H) hInt := by
  intro θ H A xs ds Q Qh r ra w k
  unfold hInt at w
  split at w
  · obtain ⟨x, rfl, rx⟩ := r.one
    cases rx
    exact .inl ⟨_, rfl, k.here ra (.v _) w⟩
  · obtain ⟨x, rfl, rx⟩ := r.one
    cases rx
    exact .inr ⟨_, rfl, k.here ra (.v _) w⟩
  · exact w.elim
def hList : List D → OH → KH → Prop
  | [.tup es], A, Q => NewQ A (.lst es) Q
  | [.ptr k], A, Q => ∃ es, A[k]? = some (.lst es) ∧ NewQ A (.lst es) Q
  | [.scr ns], A, Q => NewQ A (.lst (ns.map fun n => .v (.int n))) Q
  | _, _, _ => False
theorem l_list : LC K (fun xs H Q => ∃ p ys, xs = [.ref p] ∧ (SqL K H p ys ∨ SqT K H p ys) ∧ ∀ l, H l = none → Q (.ref l) (upd H l (.lst ys))) hList := by
  intro θ H A xs ds Q Qh r ra w k
  unfold hList at w
  split at w
  · obtain ⟨x, rfl, rx⟩ := r.one
    cases rx with
    | tup hs r' => exact ⟨_, _, rfl, .inr hs, fun l hl => k.lst ra r' w hl⟩
  · obtain ⟨es, h0, q⟩ := w
    obtain ⟨x, rfl, rx⟩ := r.one
    cases rx with
    | ptr hi =>
      obtain ⟨xs, g, r'⟩ := ra.ok _ _ _ hi h0
      exact ⟨_, _, rfl, .inl (SqL.of g), fun l hl => k.lst ra r' q hl⟩
  · obtain ⟨x, rfl, rx⟩ := r.one
    cases rx with
    | scr hs => exact ⟨_, _, rfl, .inl hs.l, fun l hl => k.lst ra (RDs.scal V.int _) w hl⟩
  · exact w.elim
def hTuple : List D → OH → KH → Prop
  | [.tup es], A, Q => Q (.tup es) A
  | [.ptr k], A, Q => ∃ es, A[k]? = some (.lst es) ∧ Q (.tup es) A
  | _, _, _ => False
theorem l_tuple : LC K (fun xs H Q => ∃ p ys, xs = [.ref p] ∧ ((SqL K H p ys ∧ ∀ l, H l = none → Q (.ref l) (upd H l (.tup ys))) ∨ (SqT K H p ys ∧ Q (.ref p) H))) hTuple := by
  intro θ H A xs ds Q Qh r ra w k
  unfold hTuple at w
  split at w
  · obtain ⟨x, rfl, rx⟩ := r.one
    cases rx with
    | tup hs r' => exact ⟨_, _, rfl, .inr ⟨hs, k.here ra (.tup hs r') w⟩⟩
  · obtain ⟨es, h0, q⟩ := w
    obtain ⟨x, rfl, rx⟩ := r.one
    cases rx with
    | ptr hi =>
      obtain ⟨xs, g, r'⟩ := ra.ok _ _ _ hi h0
      exact ⟨_, _, rfl, .inl ⟨SqL.of g, fun l hl => k.tup ra r' q hl⟩⟩
  · exact w.elim
/-- numbers as values -/
abbrev dI (ns : List Int) : List D := ns.map fun n => .v (.int n)
def rSumA (K : PySem.W.Frag) : List V → Hp → VK → Prop := fun vs H Q => rSum K vs H Q ∨ ∃ (a : Addr) (ns : List Int), vs = [V.ref a] ∧ SqT K H a (ns.map V.int) ∧ Q (.int ns.sum) H
theorem call_sumA (hc : X.calm = true) : CallR X (.builtin "sum") (rSumA X.K) := (cr_sum hc).or (call_sumT hc)
def hSum : List D → OH → KH → Prop
  | [.tup es], A, Q => ∃ ns, es = dI ns ∧ Q (.v (.int ns.sum)) A
  | [.ptr k], A, Q => ∃ ns, A[k]? = some (.lst (dI ns)) ∧ Q (.v (.int ns.sum)) A
  | [.scr ns], A, Q => Q (.v (.int ns.sum)) A
  | _, _, _ => False
theorem l_sum : LC K (rSumA K) hSum := by
  intro θ H A xs ds Q Qh r ra w k
  unfold hSum at w
  split at w
  · obtain ⟨ns, rfl, q⟩ := w
    obtain ⟨x, rfl, rx⟩ := r.one
    cases rx with
    | tup hs r' =>
      rw [r'.of_scal V.int] at hs
      exact .inr ⟨_, ns, rfl, hs, k.here ra (.v _) q⟩
  · obtain ⟨ns, h0, q⟩ := w
    obtain ⟨x, rfl, rx⟩ := r.one
    cases rx with
    | ptr hi =>
      obtain ⟨xs, g, r'⟩ := ra.ok _ _ _ hi h0
      rw [r'.of_scal V.int] at g
      exact .inl ⟨_, ns, rfl, SqL.of g, k.here ra (.v _) q⟩
  · obtain ⟨x, rfl, rx⟩ := r.one
    cases rx with
    | scr hs => exact .inl ⟨_, _, rfl, hs.l, k.here ra (.v _) w⟩
  · exact w.elim
def rMaxA (K : PySem.W.Frag) : List V → Hp → VK → Prop := fun xs H Q => (∃ i j, xs = [.int i, .int j] ∧ Q (.int (if j > i then j else i)) H) ∨ rMax K xs H Q
theorem call_maxA (hc : X.calm = true) : CallR X (.builtin "max") (rMaxA X.K) := (call_max2 hc).or (cr_max hc)
def rMinA (K : PySem.W.Frag) : List V → Hp → VK → Prop := fun xs H Q => (∃ i j, xs = [.int i, .int j] ∧ Q (.int (if j < i then j else i)) H) ∨ rMin K xs H Q
theorem call_minA (hc : X.calm = true) : CallR X (.builtin "min") (rMinA X.K) := (call_min2 hc).or (cr_min hc)
def hMax : List D → OH → KH → Prop
  | [.v (.int i), .v (.int j)], A, Q => Q (.v (.int (max i j))) A
  | [.ptr k], A, Q => ∃ ns, A[k]? = some (.lst (dI ns)) ∧ 0 < ns.length ∧ ∀ m, m ∈ ns → (∀ y, y ∈ ns → y ≤ m) → Q (.v (.int m)) A
  | _, _, _ => False
theorem l_max : LC K (rMaxA K) hMax := by
  intro θ H A xs ds Q Qh r ra w k
  unfold hMax at w
  split at w
  · rename_i i j
    obtain ⟨x, y, rfl, rx, ry⟩ := r.two
    cases rx
    cases ry
    have e : (if j > i then j else i) = max i j := by rw [Int.max_def]; split <;> split <;> omega
    refine .inl ⟨_, _, rfl, ?_⟩
    rw [e]
    exact k.here ra (.v _) w
  · obtain ⟨ns, h0, h1, q⟩ := w
    obtain ⟨x, rfl, rx⟩ := r.one
    cases rx with
    | ptr hi =>
      obtain ⟨xs, g, r'⟩ := ra.ok _ _ _ hi h0
      rw [r'.of_scal V.int] at g
      exact .inr ⟨_, ns, rfl, SqL.of g, h1, fun m hm hle => k.here ra (.v _) (q m hm hle)⟩
  · exact w.elim
def hMin : List D → OH → KH → Prop
  | [.v (.int i), .v (.int j)], A, Q => Q (.v (.int (min i j))) A
  | [.ptr k], A, Q => ∃ ns, A[k]? = some (.lst (dI ns)) ∧ 0 < ns.length ∧ ∀ m, m ∈ ns → (∀ y, y ∈ ns → m ≤ y) → Q (.v (.int m)) A
  | _, _, _ => False
theorem l_min : LC K (rMinA K) hMin := by
  intro θ H A xs ds Q Qh r ra w k
  unfold hMin at w
  split at w
  · rename_i i j
    obtain ⟨x, y, rfl, rx, ry⟩ := r.two
    cases rx
    cases ry
    have e : (if j < i then j else i) = min i j := by rw [Int.min_def]; split <;> split <;> omega
    refine .inl ⟨_, _, rfl, ?_⟩
    rw [e]
    exact k.here ra (.v _) w
  · obtain ⟨ns, h0, h1, q⟩ := w
    obtain ⟨x, rfl, rx⟩ := r.one
    cases rx with
    | ptr hi =>
      obtain ⟨xs, g, r'⟩ := ra.ok _ _ _ hi h0
      rw [r'.of_scal V.int] at g
      exact .inr ⟨_, ns, rfl, SqL.of g, h1, fun m hm hle => k.here ra (.v _) (q m hm hle)⟩
  · exact w.elim
def hAbs : List D → OH → KH → Prop
  | [.v (.int i)], A, Q => Q (.v (.int (if i < 0 then -i else i))) A
  | _, _, _ => False
theorem l_abs : LC K (fun xs H Q => ∃ i, xs = [.int i] ∧ Q (.int (if i < 0 then -i else i)) H) hAbs := by
  intro θ H A xs ds Q Qh r ra w k
  unfold hAbs at w
  split at w
  · obtain ⟨x, rfl, rx⟩ := r.one
    cases rx
    exact ⟨_, rfl, k.here ra (.v _) w⟩
  · exact w.elim
/-! ### data: == , !=, repr -/
mutual
inductive DP (A : OH) : D → PyData → Prop
  | non : DP A (.v .non) .none
  | bl (b : Bool) : DP A (.v (.bl b)) (.bool b)
  | int (i : Int) : DP A (.v (.int i)) (.int i)
  | str (x : Str) : DP A (.v (.str x)) (.str x)
  | tup {ds : List D} {ps : List PyData} (h : DPs A ds ps) : DP A (.tup ds) (.tuple ps)
  | lst {k : Nat} {ds : List D} {ps : List PyData} (h0 : A[k]? = some (.lst ds)) (h : DPs A ds ps) : DP A (.ptr k) (.list ps)
inductive DPs (A : OH) : List D → List PyData → Prop
  | nil : DPs A [] []
  | cons {d : D} {p : PyData} {ds : List D} {ps : List PyData} (h : DP A d p) (t : DPs A ds ps) : DPs A (d :: ds) (p :: ps)
end
mutual
theorem DP.dp {θ : List Addr} {H : Hp} {A : OH} (ra : RA K θ H A) : ∀ {d : D} {p : PyData} {v : V}, DP A d p → RD K θ H v d → Dp K H v p
  | _, _, _, .non, r => by cases r; exact .non
  | _, _, _, .bl b, r => by cases r; exact .bl b
  | _, _, _, .int i, r => by cases r; exact .int i
  | _, _, _, .str x, r => by cases r; exact .str x
  | _, _, _, .tup h, r => by
    cases r with
    | tup hs r => exact .tup hs (DPs.dp ra h r)
  | _, _, _, .lst h0 h, r => by
    cases r with
    | ptr hi =>
      obtain ⟨xs, g, r'⟩ := ra.ok _ _ _ hi h0
      exact .lst (SqL.of g) (DPs.dp ra h r')
theorem DPs.dp {θ : List Addr} {H : Hp} {A : OH} (ra : RA K θ H A) : ∀ {d : List D} {p : List PyData} {v : List V}, DPs A d p → RDs K θ H v d → DpAll K H v p
  | _, _, _, .nil, r => by cases r; exact .nil
  | _, _, _, .cons h t, r => by
    cases r with
    | cons r1 r2 => exact .cons (DP.dp ra h r1) (DPs.dp ra t r2)
end
/-- d == e is b -/
def EqD (A : OH) (d e : D) (b : Bool) : Prop := ∃ p q, DP A d p ∧ DP A e q ∧ SeqAt.shaped p = true ∧ SeqAt.shaped q = true ∧ PyData.eqv p q = b
def hEq : R2h
  | .v (.int i), .v (.int j), A, Q => Q (.v (.bl (decide (i = j)))) A
  | .v (.str i), .v (.str j), A, Q => Q (.v (.bl (decide (i = j)))) A
  | .v (.bl i), .v (.bl j), A, Q => Q (.v (.bl (decide (i = j)))) A
  | .v .non, .v (.int _), A, Q => Q (.v (.bl false)) A
  | .v (.int _), .v .non, A, Q => Q (.v (.bl false)) A
  | .v .non, .v .non, A, Q => Q (.v (.bl true)) A
  | d, e, A, Q => ∃ b, EqD A d e b ∧ Q (.v (.bl b)) A
def hNe : R2h
  | .v (.int i), .v (.int j), A, Q => Q (.v (.bl (!decide (i = j)))) A
  | .v (.str i), .v (.str j), A, Q => Q (.v (.bl (!decide (i = j)))) A
  | .v (.bl i), .v (.bl j), A, Q => Q (.v (.bl (!decide (i = j)))) A
  | .v .non, .v (.int _), A, Q => Q (.v (.bl true)) A
  | .v (.int _), .v .non, A, Q => Q (.v (.bl true)) A
  | .v .non, .v .non, A, Q => Q (.v (.bl false)) A
  | d, e, A, Q => ∃ b, EqD A d e b ∧ Q (.v (.bl (!b))) A
def rEqA (K : PySem.W.Frag) : R2 := fun x y H Q => rEq x y H Q ∨ rEqD K x y H Q
def rNeA (K : PySem.W.Frag) : R2 := fun x y H Q => rNe x y H Q ∨ rNeD K x y H Q
theorem op_eqA {X : Cx} (hu : X.A.units + 64 < cLine) : OpR X (compareOp .Eq) (rEqA X.K) := op_eq.or (op_eqD hu)
theorem op_neA {X : Cx} (hu : X.A.units + 64 < cLine) : OpR X (compareOp .NotEq) (rNeA X.K) := op_ne.or (op_neD hu)
theorem eqv_int (i j : Int) : PyData.eqv (.int i) (.int j) = decide (i = j) := by
  have : PyData.eqv (.int i) (.int j) = (i == j) := by simp only [PyData.eqv]
  rw [this, Bool.eq_iff_iff]
  simp
theorem shaped_int (i : Int) : SeqAt.shaped (.int i) = true := by
  unfold SeqAt.shaped
  simp only [PyData.canLay0, PyData.depth]
  rfl
theorem l_eq : LR K (rEqA K) hEq := by
  intro θ H A x y d e Q Qh rd re ra w k
  unfold hEq at w
  split at w
  · cases rd
    cases re
    refine .inl ⟨rfl, k.here ra (.v _) ?_⟩
    simpa using w
  · cases rd
    cases re
    refine .inl ⟨rfl, k.here ra (.v _) ?_⟩
    simpa using w
  · cases rd
    cases re
    refine .inl ⟨rfl, k.here ra (.v _) ?_⟩
    simpa using w
  · cases rd; cases re; exact .inl ⟨rfl, k.here ra (.v _) w⟩
  · cases rd; cases re; exact .inl ⟨rfl, k.here ra (.v _) w⟩
  · cases rd; cases re; exact .inl ⟨rfl, k.here ra (.v _) w⟩
  · obtain ⟨b, ⟨p, q, h1, h2, h3, h4, rfl⟩, w⟩ := w
    exact .inr ⟨p, q, h1.dp ra rd, h2.dp ra re, h3, h4, k.here ra (.v _) w⟩
theorem l_ne : LR K (rNeA K) hNe := by
  intro θ H A x y d e Q Qh rd re ra w k
  unfold hNe at w
  split at w
  · cases rd
    cases re
    refine .inl ⟨rfl, k.here ra (.v _) ?_⟩
    simpa using w
  · cases rd
    cases re
    refine .inl ⟨rfl, k.here ra (.v _) ?_⟩
    simpa using w
  · cases rd
    cases re
    refine .inl ⟨rfl, k.here ra (.v _) ?_⟩
    simpa using w
  · cases rd; cases re; exact .inl ⟨rfl, k.here ra (.v _) w⟩
  · cases rd; cases re; exact .inl ⟨rfl, k.here ra (.v _) w⟩
  · cases rd; cases re; exact .inl ⟨rfl, k.here ra (.v _) w⟩
  · obtain ⟨b, ⟨p, q, h1, h2, h3, h4, rfl⟩, w⟩ := w
    exact .inr ⟨p, q, h1.dp ra rd, h2.dp ra re, h3, h4, k.here ra (.v _) w⟩
/-- is None -/
def hIsN : R2h
  | .v x, .v .non, A, Q => Q (.v (.bl (decide (x = .non)))) A
  | .tup _, .v .non, A, Q => Q (.v (.bl false)) A
  | .ptr _, .v .non, A, Q => Q (.v (.bl false)) A
  | .scr _, .v .non, A, Q => Q (.v (.bl false)) A
  | _, _, _, _ => False
theorem l_isN : LR K (fun x y H Q => y = .non ∧ Q (.bl (decide (x = .non))) H) hIsN := by
  intro θ H A x y d e Q Qh rd re ra w k
  unfold hIsN at w
  split at w
  · cases rd; cases re; exact ⟨rfl, k.here ra (.v _) w⟩
  · cases re; cases rd; exact ⟨rfl, k.here ra (.v _) w⟩
  · cases re; cases rd; exact ⟨rfl, k.here ra (.v _) w⟩
  · cases re; cases rd; exact ⟨rfl, k.here ra (.v _) w⟩
  · exact w.elim
def hNotN : R2h
  | .v x, .v .non, A, Q => Q (.v (.bl (!decide (x = .non)))) A
  | .tup _, .v .non, A, Q => Q (.v (.bl true)) A
  | .ptr _, .v .non, A, Q => Q (.v (.bl true)) A
  | .scr _, .v .non, A, Q => Q (.v (.bl true)) A
  | _, _, _, _ => False
theorem l_notN : LR K (fun x y H Q => y = .non ∧ Q (.bl (!decide (x = .non))) H) hNotN := by
  intro θ H A x y d e Q Qh rd re ra w k
  unfold hNotN at w
  split at w
  · cases rd; cases re; exact ⟨rfl, k.here ra (.v _) w⟩
  · cases re; cases rd; exact ⟨rfl, k.here ra (.v _) w⟩
  · cases re; cases rd; exact ⟨rfl, k.here ra (.v _) w⟩
  · cases re; cases rd; exact ⟨rfl, k.here ra (.v _) w⟩
  · exact w.elim
def hRepr : List D → OH → KH → Prop
  | [d], A, Q => ∃ p, DP A d p ∧ Shw p ∧ Q (.v (.str p.shown)) A
  | _, _, _ => False
theorem l_repr : LC K (fun xs H Q => ∃ x d, xs = [x] ∧ Dp K H x d ∧ Shw d ∧ Q (.str d.shown) H) hRepr := by
  intro θ H A xs ds Q Qh r ra w k
  unfold hRepr at w
  split at w
  · obtain ⟨p, h1, h2, w⟩ := w
    obtain ⟨x, rfl, rx⟩ := r.one
    exact ⟨x, p, rfl, h1.dp ra rx, h2, k.here ra (.v _) w⟩
  · exact w.elim
/-! ### isinstance with one class -/
inductive TyD (K : PySem.W.Frag) (A : OH) : D → Value → Prop
  | non : TyD K A (.v .non) (.type "NoneType")
  | bl (b : Bool) : TyD K A (.v (.bl b)) (.type "bool")
  | int (i : Int) : TyD K A (.v (.int i)) (.type "int")
  | str (x : Str) : TyD K A (.v (.str x)) (.type "str")
  | lst {k : Nat} {ds : List D} (h : A[k]? = some (.lst ds)) : TyD K A (.ptr k) (.type "list")
  | dK {k : Nat} {kvs : List (Key × D)} (h : A[k]? = some (.dK kvs)) : TyD K A (.ptr k) (.type "dict")
  | ins {k : Nat} {C : Addr} {fs : List (Str × D)} (h : A[k]? = some (.ins C fs)) (cl : Cls K C) (ha : PySem.W.findIn K (.ref C) "__class__" = some (some (.builtin "object.__class__")))
      (hn : PySem.W.specialIn K (.builtin "object.__class__") "__get__" = some (some (.builtin "getset_descriptor.__get__"))) (htk : PySem.W.takesIn K (.builtin "object.__class__") = some true)
      (hm : PySem.W.mroIn K C (.type "object") = some true) : TyD K A (.ptr k) (.ref C)
  | tup (ds : List D) : TyD K A (.tup ds) (.type "tuple")
theorem TyD.ty {θ : List Addr} {H : Hp} {A : OH} (ra : RA K θ H A) {d : D} {v : V} {t : Value} (h : TyD K A d t) (r : RD K θ H v d) : TyX K H v t := by
  cases h with
  | non => cases r; exact .base .non
  | bl b => cases r; exact .base (.bl b)
  | int i => cases r; exact .base (.int i)
  | str x => cases r; exact .base (.str x)
  | lst h =>
    cases r with
    | ptr hi =>
      obtain ⟨xs, g, _⟩ := ra.ok _ _ _ hi h
      exact .base (.lst g)
  | dK h =>
    cases r with
    | ptr hi =>
      obtain ⟨xs, g, _⟩ := ra.ok _ _ _ hi h
      exact .base (.dK g)
  | ins h cl ha hn htk hm =>
    cases r with
    | ptr hi =>
      obtain ⟨dx, xs, g, _, _⟩ := ra.ok _ _ _ hi h
      exact .base (.ins g cl ha hn htk hm)
  | tup ds =>
    cases r with
    | tup hs _ =>
      rcases hs with (h | ⟨o, h⟩) | ⟨o, its, n, h1, h2, _⟩
      · exact .base (.tup h)
      · exact .fTuple h
      · exact .kTuple h1 h2
/-- c: a class, as a value -/
def hIsi (K : PySem.W.Frag) : List D → OH → KH → Prop
  | [d, .v c], A, Q => ∃ t u b, ClsV c u ∧ TyD K A d t ∧ PySem.W.kitOne K t u = some b ∧ Q (.v (.bl b)) A
  | _, _, _ => False
theorem l_isi : LC K (rIsi K) (hIsi K) := by
  intro θ H A xs ds Q Qh r ra w k
  unfold hIsi at w
  split at w
  · obtain ⟨t, u, b, h1, h2, h3, w⟩ := w
    obtain ⟨x, y, rfl, rx, ry⟩ := r.two
    cases ry
    exact ⟨_, _, t, u, b, rfl, h1, h2.ty ra rx, h3, k.here ra (.v _) w⟩
  · exact w.elim
end
/-! ### attributes, stores, list methods -/
section
variable {X : Cx} {e o a b value : Expr} {es : List Expr} {f : Str} {pos pos' apos : Pos} {C : Addr} {ta tv : TEh} {t : TAh}
def hFld (C : Addr) (ta : TEh) (f : Str) : TEh := fun σ A Q => ta σ A fun x A1 => match x with
  | .ptr k => ∃ fs d, A1[k]? = some (.ins C fs) ∧ fs.lookup f = some d ∧ Q d A1
  | _ => False
theorem ph_fld (c : Cls X.K C) (n : NoAttr X.K C f) (he : PE X e (lift X.K ta)) (hb : attributeBase e f X.env (eval e X.env) = eval e X.env) : PE X (.Attribute e f pos) (lift X.K (hFld C ta f)) :=
  (pe_fld he hb).imp fun σ H Q ⟨θ, σh, A, Qh, rs, ra, w, k⟩ => ⟨θ, σh, A, _, rs, ra, w, fun θ1 H1 A1 v d e1 ra1 r1 w1 => by
    split at w1
    · obtain ⟨fs, d, h1, h2, q⟩ := w1
      cases r1 with
      | ptr hi =>
        obtain ⟨dx, xs, g, _, rf⟩ := ra1.ok _ _ _ hi h1
        obtain ⟨v, l, r⟩ := rf.lookup h2
        exact ⟨_, C, dx, xs, v, rfl, g, c, n, l, (k.ext e1).here ra1 r q⟩
    · exact w1.elim⟩
theorem RF.put {K : PySem.W.Frag} {θ : List Addr} {H : Hp} {f : Str} {v : V} {d : D} (r : RD K θ H v d) : ∀ {xs : List (Str × V)} {fs : List (Str × D)}, RF K θ H xs fs → RF K θ H (putF f v xs) (putD f d fs)
  | _, _, .nil => .cons r .nil
  | _, _, .cons (n := n) (x := x) (d := e) (xs := xs) (ds := ds) h t => by
    show RF K θ H (if n = f then (n, v) :: xs else (n, x) :: putF f v xs) (if n = f then (n, d) :: ds else (n, e) :: putD f d ds)
    split
    · exact .cons r t
    · exact .cons h (RF.put r t)
def hSetF (C : Addr) (ta tv : TEh) (f : Str) : TSh := fun D σ A => tv σ A fun y A1 => ta σ A1 fun x A2 => match x with
  | .ptr k => ∃ fs, A2[k]? = some (.ins C fs) ∧ few (fs.length + 99100) (PutQ A2 k (.ins C (putD f y fs)) (D.nx σ))
  | _ => False
theorem psh_fld (c : Cls X.K C) (n : NoAttr X.K C f) (ha : PE X o (lift X.K ta)) (hv : PE X value (lift X.K tv)) (hs : swapsWith value (some (.Attribute o f pos')) pos.line X.env = pure false) : PS X (.Assign [.Attribute o f pos'] value pos) (liftS X.K (hSetF C ta tv f)) :=
  (ps_fld ha hv hs).imp fun De σ H ⟨θ, σh, A, Dh, rs, ra, w, k⟩ => ⟨θ, σh, A, _, rs, ra, w, fun θ1 H1 A1 y dy e1 ra1 r1 w1 => ⟨θ1, σh, A1, _, rs.ext e1, ra1, w1, fun θ2 H2 A2 x dx e2 ra2 r2 w2 => by
    split at w2
    · rename_i kk
      obtain ⟨fs, h1, w2⟩ := w2
      have w3 : fs.length < 1000 ∧ PutQ A2 kk (.ins C (putD f dy fs)) (Dh.nx σh) := by
        unfold few at w2
        split at w2
        · rename_i e
          have := Nat.le_of_ble_eq_true e
          exact ⟨by omega, w2⟩
        · exact w2.elim
      cases r2 with
      | @ptr _ a hi =>
        obtain ⟨dx, xs, g, hd, rf⟩ := ra2.ok _ _ _ hi h1
        have mu : Mut (H2 a) := by rw [g]; exact True.intro
        have e3 := Ext.put (u := .ins C dx (putF f y xs)) (List.mem_of_getElem? hi) mu
        have ne : dx ≠ a := ne_of hd g (by intro z; cases z)
        refine ⟨_, C, dx, xs, rfl, g, c, n, by rw [rf.length]; exact w3.1, k.nx _ _ _ _ _ ((e1.trans e2).trans e3) (((rs.ext e1).ext e2).ext e3) (ra2.put (o' := .ins C (putD f dy fs)) hi h1 mu ⟨dx, _, upd_same, by rw [upd_ne ne]; exact hd, RF.put ((r1.ext e2).ext e3) (rf.stab0 (stab_put mu))⟩) (w3.2 _ ⟨(List.getElem?_eq_some_iff.mp h1).1, rfl⟩)⟩
    · exact w2.elim⟩⟩
/-- o[i] = v, o a list -/
def hgSub (to ti : TEh) : TGh := fun d σ A Q => to σ A fun o A1 => ti σ A1 fun i A2 => match o, i with
  | .ptr k, .v (.int n) => ∃ es j, A2[k]? = some (.lst es) ∧ ixN es.length n = some j ∧ PutQ A2 k (.lst (es.set j d)) (Q σ)
  | _, _ => False
theorem lg_sub {K : PySem.W.Frag} {to ti : TEh} : LG K (gSub (lift K to) (lift K ti) rSetL) (hgSub to ti) := fun v σ H Q ⟨θ, d, σh, A, Qh, r, rs, ra, w, k⟩ =>
  ⟨θ, σh, A, _, rs, ra, w, fun θ1 H1 A1 o do_ e1 ra1 r1 w1 => ⟨θ1, σh, A1, _, rs.ext e1, ra1, w1, fun θ2 H2 A2 i di e2 ra2 r2 w2 => by
    split at w2
    · obtain ⟨es, j, h1, h2, w2⟩ := w2
      have r1' := r1.ext e2
      cases r2
      cases r1' with
      | ptr hi =>
        obtain ⟨xs, g, rx⟩ := ra2.ok _ _ _ hi h1
        have rd := (r.ext e1).ext e2
        obtain ⟨q1, q2, q3⟩ := ra2.putL hi h1 (RDs.set rd j rx)
        exact ⟨_, xs, _, j, rfl, rfl, g, by rw [rx.length]; exact h2, k _ _ _ _ _ ((e1.trans e2).trans q2) (((rs.ext e1).ext e2).ext q2) q1 (w2 _ q3)⟩
    · exact w2.elim⟩⟩
theorem pgh_sub {to ti : TEh} (ho : PE X a (lift X.K to)) (hi : PE X b (lift X.K ti)) (ha : ∀ v, assign (.Subscript a b pos) X.env v = (do
      let ov ← holding [v] (eval a X.env)
      let iv ← holding [v, ov] (eval b X.env)
      standAt pos
      holding [v, ov, iv] (setItem ov iv v)
      release [v, ov, iv] []) := by intro _; rfl) : PG X (.Subscript a b pos) (gSub (lift X.K to) (lift X.K ti) rSetL) := pg_sub ho hi set_list ha
/-- l.append(d) -/
def hApp (to : TEh) (t : TAh) : TEh := fun σ A Q => to σ A fun x A1 => match x with
  | .ptr k => (∃ es, A1[k]? = some (.lst es)) ∧ t σ A1 fun ds A2 => match ds with
    | [d] => ∃ es, A2[k]? = some (.lst es) ∧ es.length ≤ 100000 ∧ PutQ A2 k (.lst (es ++ [d])) (Q (.v .non))
    | _ => False
  | _ => False
theorem ph_app (ho : PE X o (lift X.K ta)) (ha : PA X (e :: es) (liftA X.K t))
    (hbase : attributeBase o "append" X.env (eval o X.env) = eval o X.env := by rfl)
    (hfew : ((backTo pos (starEach (e :: es) X.env)).all (fun x => !x.1) && (backToKw pos (keywordEach [] X.env)).all (fun x => x.1.isSome)
      && decide ((e :: es).length + ([] : List Keyword).length + (if ([] : List Keyword).isEmpty then 0 else 1) < 30)) = true := by rfl)
    (hline : (apos.endLine == pos.line) = true := by rfl) (hs : starEach (e :: es) X.env = (false, eval e X.env) :: starEach es X.env := by rfl) (hplain : (backTo pos (starEach es X.env)).any (·.1) = false := by rfl) :
    PE X (.Call (.Attribute o "append" apos) (e :: es) [] pos) (lift X.K (hApp ta t)) :=
  (pe_bm PySem.F.plainAttrs_list PySem.F.slot_list_append PySem.F.type_list_append mt_append ho ha hbase hfew hline hs hplain).imp fun σ H Q ⟨θ, σh, A, Qh, rs, ra, w, k⟩ => ⟨θ, σh, A, _, rs, ra, w, fun θ1 H1 A1 v d e1 ra1 r1 w1 => by
    split at w1
    · obtain ⟨⟨es, h0⟩, w1⟩ := w1
      cases r1 with
      | ptr hi =>
        obtain ⟨xs, g, _⟩ := ra1.ok _ _ _ hi h0
        refine ⟨.inl ⟨rfl, xs, SqL.of g⟩, θ1, σh, A1, _, rs.ext e1, ra1, w1, fun θ2 H2 A2 vs ds e2 ra2 r2 w2 => ?_⟩
        split at w2
        · obtain ⟨es, h2, hz, w2⟩ := w2
          obtain ⟨y, rfl, ry⟩ := r2.one
          have hi' : RD X.K θ2 H2 (.ref _) (.ptr _) := (RD.ptr hi).ext e2
          cases hi' with
          | ptr hi' =>
            obtain ⟨ys, g2, rx⟩ := ra2.ok _ _ _ hi' h2
            obtain ⟨q1, q2, q3⟩ := ra2.putL hi' h2 (rx.append (.cons ry .nil))
            have ez : sizeLine = 16777216 := sizeLine_eq
            exact ⟨_, ys, y, rfl, rfl, g2, by rw [rx.length]; omega, k _ _ _ _ _ ((e1.trans e2).trans q2) q1 (.v _) (w2 _ q3)⟩
        · exact w2.elim
    · exact w1.elim⟩
/-- l.pop() -/
def hPop (to : TEh) : TEh := fun σ A Q => to σ A fun x A1 => match x with
  | .ptr k => ∃ es d, A1[k]? = some (.lst (es ++ [d])) ∧ PutQ A1 k (.lst es) (Q d)
  | _ => False
theorem ph_pop (ho : PE X o (lift X.K ta)) (hbase : attributeBase o "pop" X.env (eval o X.env) = eval o X.env := by rfl) (hline : (apos.endLine == pos.line) = true := by rfl) :
    PE X (.Call (.Attribute o "pop" apos) [] [] pos) (lift X.K (hPop ta)) :=
  (pe_bm0 PySem.F.plainAttrs_list PySem.F.slot_list_pop PySem.F.type_list_pop mt_pop ho hbase hline).imp fun σ H Q ⟨θ, σh, A, Qh, rs, ra, w, k⟩ => ⟨θ, σh, A, _, rs, ra, w, fun θ1 H1 A1 v d e1 ra1 r1 w1 => by
    split at w1
    · obtain ⟨es, d, h0, w1⟩ := w1
      cases r1 with
      | ptr hi =>
        obtain ⟨xs, g, rx⟩ := ra1.ok _ _ _ hi h0
        have hl : xs.length = es.length + 1 := by rw [rx.length, List.length_append]; rfl
        obtain ⟨y, hy, ry⟩ := rx.get (i := es.length) (d := d) (by simp)
        have rd : RDs X.K θ1 H1 xs.dropLast es := by
          have := rx.dropLast
          rw [List.dropLast_concat] at this
          exact this
        obtain ⟨q1, q2, q3⟩ := ra1.putL hi h0 rd
        exact ⟨.inl ⟨rfl, xs, SqL.of g⟩, _, xs, y, rfl, rfl, g, by rw [hl]; exact hy, k _ _ _ _ _ (e1.trans q2) q1 (ry.ext q2) (w1 _ q3)⟩
    · exact w1.elim⟩
end
end Rp

/-! More of the second layer: comparisons by name, targets within targets, slices with a step, zip. -/
namespace Rp
open PySem PySem.Spec PyProof.Rows L2
section
variable {K : PySem.W.Frag}
theorem l_lt : LR K (rI0 fun i j => .bl (decide (i < j))) (hI fun i j => decide (i < j)) := l_cmpI
theorem l_le : LR K (rI0 fun i j => .bl (decide (i ≤ j))) (hI fun i j => decide (i ≤ j)) := l_cmpI
theorem l_gt : LR K (rI0 fun i j => .bl (decide (j < i))) (hI fun i j => decide (j < i)) := l_cmpI
theorem l_ge : LR K (rI0 fun i j => .bl (decide (j ≤ i))) (hI fun i j => decide (j ≤ i)) := l_cmpI
/-! ### targets within targets -/
def Goes (g : TGh) : Prop := ∀ d σ A Q, g d σ A Q → ∃ σ' A', Q σ' A'
def Goess (g : TGsh) : Prop := ∀ d σ A Q, g d σ A Q → ∃ σ' A', Q σ' A'
theorem goes_name {i : Nat} : Goes (hgName i) := fun d σ A Q w => ⟨_, _, w⟩
theorem goes_nil : Goess hgNil := fun d σ A Q w => by
  unfold hgNil at w
  split at w
  · exact ⟨_, _, w⟩
  · exact w.elim
theorem goes_cons {g : TGh} {gs : TGsh} (h : Goes g) (h' : Goess gs) : Goess (hgCons g gs) := fun d σ A Q w => by
  unfold hgCons at w
  split at w
  · obtain ⟨_, _, w⟩ := h _ _ _ _ w
    exact h' _ _ _ _ w
  · exact w.elim
theorem goes_tup {gs : TGsh} (h : Goess gs) : Goes (hgTup gs) := fun d σ A Q w => by
  unfold hgTup at w
  split at w
  · exact h _ _ _ _ w
  · exact w.elim
theorem len_cons {g : TGh} {gs : TGsh} {n : Nat} (h : Goes g) (h' : LenG gs n) : LenG (hgCons g gs) (n + 1) := fun ds σ A Q w => by
  unfold hgCons at w
  split at w
  · obtain ⟨_, _, w⟩ := h _ _ _ _ w
    rw [List.length_cons, h' _ _ _ _ w]
  · exact w.elim
theorem mono_nil : ∀ v σ H Q Q', (∀ σ H, Q σ H → Q' σ H) → gNil v σ H Q → gNil v σ H Q' := fun _ _ _ _ _ h w => ⟨w.1, h _ _ w.2⟩
theorem mono_cons {g : TG} {gs : TGs} (h : ∀ v σ H Q Q', (∀ σ H, Q σ H → Q' σ H) → g v σ H Q → g v σ H Q') (h' : ∀ v σ H Q Q', (∀ σ H, Q σ H → Q' σ H) → gs v σ H Q → gs v σ H Q') :
    ∀ v σ H Q Q', (∀ σ H, Q σ H → Q' σ H) → gCons g gs v σ H Q → gCons g gs v σ H Q' := fun _ _ _ _ _ m ⟨x, r, e, w⟩ => ⟨x, r, e, h _ _ _ _ _ (fun _ _ q => h' _ _ _ _ _ m q) w⟩
theorem mono_tup {n : Nat} {gs : TGs} (h' : ∀ v σ H Q Q', (∀ σ H, Q σ H → Q' σ H) → gs v σ H Q → gs v σ H Q') : ∀ v σ H Q Q', (∀ σ H, Q σ H → Q' σ H) → gTup K n gs v σ H Q → gTup K n gs v σ H Q' :=
  fun _ _ _ _ _ m ⟨a, xs, e, hs, hl, w⟩ => ⟨a, xs, e, hs, hl, h' _ _ _ _ _ m w⟩
end
/-! ### xs[::k] of a list -/
def pickG {α : Type} (xs : List α) (st : Int) : List α :=
  (sliceRange (sliceBounds none none (some st) xs.length).1 (sliceBounds none none (some st) xs.length).2.1 (sliceBounds none none (some st) xs.length).2.2).filterMap (xs[·]?)
theorem pickG_mem {α : Type} {xs : List α} {st : Int} {x : α} (h : x ∈ pickG xs st) : x ∈ xs := by
  unfold pickG at h
  obtain ⟨i, _, e⟩ := List.mem_filterMap.mp h
  exact List.mem_of_getElem? e
theorem pick_eq (its : List Value) (st : Int) : slicePick its.toArray none none (some st) = (pickG its st).toArray := by
  unfold slicePick pickG
  simp only [List.size_toArray]
  congr 1
  congr 1
  funext i
  simp
theorem pickG_len {α : Type} (xs : List α) (st : Int) : (pickG xs st).length ≤ xs.length := by
  have e : ∀ (ys : List Value), (pickG ys st).length ≤ ys.length := fun ys => by
    have := slicePick_size_le ys.toArray none none (some st)
    rw [pick_eq] at this
    simpa using this
  have m : ∀ (ixs : List Nat) {β : Type} (ys : List β), ys.length = xs.length → (ixs.filterMap (ys[·]?)).length = (ixs.filterMap (xs[·]?)).length := fun ixs => by
    intro β ys hl
    induction ixs with
    | nil => rfl
    | cons i ixs ih =>
      rw [List.filterMap_cons, List.filterMap_cons]
      by_cases c : i < xs.length
      · rw [List.getElem?_eq_getElem c, List.getElem?_eq_getElem (by rw [hl]; exact c)]
        simp [ih]
      · rw [List.getElem?_eq_none (show ys.length ≤ i by omega), List.getElem?_eq_none (show xs.length ≤ i by omega)]
        exact ih
  have q := e (List.replicate xs.length Value.none)
  unfold pickG at q ⊢
  rw [List.length_replicate] at q
  rw [m _ (List.replicate xs.length Value.none) (by simp)] at q
  exact q
theorem fm_vals {xs : List V} {us : List Value} (r : Vals xs us) : ∀ ixs : List Nat, Vals (ixs.filterMap (xs[·]?)) (ixs.filterMap (us[·]?))
  | [] => .nil
  | i :: ixs => by
    have ih := fm_vals r ixs
    rw [List.filterMap_cons, List.filterMap_cons]
    cases e : xs[i]? with
    | none => rw [r.none_of e]; exact ih
    | some x =>
      obtain ⟨u, hu, ru⟩ := r.get e
      rw [hu]
      exact .cons ru ih
theorem Vals.pick {xs : List V} {us : List Value} (r : Vals xs us) (st : Int) : Vals (pickG xs st) (pickG us st) := by
  unfold pickG
  rw [r.length]
  exact fm_vals r _
theorem fm_rds {K : PySem.W.Frag} {θ : List Addr} {H : Hp} {xs : List V} {ds : List D} (r : RDs K θ H xs ds) : ∀ ixs : List Nat, RDs K θ H (ixs.filterMap (xs[·]?)) (ixs.filterMap (ds[·]?))
  | [] => .nil
  | i :: ixs => by
    have ih := fm_rds r ixs
    rw [List.filterMap_cons, List.filterMap_cons]
    by_cases c : i < xs.length
    · obtain ⟨d, hd, rd⟩ := r.get' (List.getElem?_eq_getElem c)
      rw [List.getElem?_eq_getElem c, hd]
      exact .cons rd ih
    · rw [List.getElem?_eq_none (by omega), List.getElem?_eq_none (by rw [← r.length]; omega)]
      exact ih
theorem RDs.pick {K : PySem.W.Frag} {θ : List Addr} {H : Hp} {xs : List V} {ds : List D} (r : RDs K θ H xs ds) (st : Int) : RDs K θ H (pickG xs st) (pickG ds st) := by
  unfold pickG
  rw [r.length]
  exact fm_rds r _
theorem pickG_map {α β : Type} (f : α → β) (xs : List α) (st : Int) : pickG (xs.map f) st = (pickG xs st).map f := by
  unfold pickG
  rw [List.length_map, List.map_filterMap]
  congr 1
  funext i
  rw [List.getElem?_map]
section
variable {X : Cx} {e st : Expr} {pos p3 : Pos}
def tStepL (K : PySem.W.Frag) (te : TE) (ts : TO) : TE := fun σ H Q => te σ H fun x H1 => ts σ H1 fun o H2 => ∃ a xs k, x = .ref a ∧ o = some k ∧ k ≠ 0 ∧ SqL K H2 a xs ∧ ∀ p, H2 p = none → Q (.ref p) (upd H2 p (.lst (pickG xs k)))
theorem pe_stepL {te : TE} {ts : TO} (he : PE X e te) (hst : PO X (some st) ts) (htr : ∀ o r, subscriptTail e (.Slice none none (some st) p3) o r = subscriptTail e (.Slice none none (some st) p3) o r := by intros; rfl)
    (hop : ∀ o s', (subscripted (.Slice none none (some st) p3) false o s') = operate [o, s'] (getItem o s') := by intros; rfl) : PE X (.Subscript e (.Slice none none (some st) p3) pos) (tStepL X.K te ts) := by
  refine ⟨fun pins s σ H Q I h => ?_⟩
  refine Subscript_ (thn (he.run pins s σ H _ I h) fun v s1 ⟨x, H1, I1, r1, q1⟩ => ?_)
  refine wpAny_Slice (thn (po_none.run pins s1 σ H1 (fun o H2 => o = none ∧ H2 = H1) I1 ⟨rfl, rfl⟩) fun vl s2 ⟨l, H2, I2, pl, el, e2⟩ => ?_)
  subst el e2
  refine thn (po_none.run pins s2 σ H2 (fun o H3 => o = none ∧ H3 = H2) I2 ⟨rfl, rfl⟩) fun vu s3 ⟨u, H3, I3, pu, eu, e3⟩ => ?_
  subst eu e3
  refine thn (hst.run pins s3 σ H3 _ I3 q1) fun vs s4 ⟨o, H4, I4, ps, a, xs, k, ex, eo, hk, hx, q⟩ => ?_
  subst ex eo
  cases r1
  have I5 : Inv X pins σ H4 { s4 with heap := s4.heap.push { cls := .type "slice", data := .fields #[vl, vu, vs] } } := I4.kept (t' := s4.toks) fun b ob q => Heap.get?_push_of_some _ q
  obtain ⟨its, r, ht, hz⟩ := I5.list hx
  have hlen := r.length
  show wpAny (model X.prog X.w) X.A (subscriptTail e (.Slice none none (some st) p3) (.ref a) (.ref s4.heap.objs.size)) (EP X pins σ Q) X.xe { s4 with heap := s4.heap.push { cls := .type "slice", data := .fields #[vl, vu, vs] } }
  refine tail_any (ops := [.ref a, .ref s4.heap.objs.size]) ht.isList.typeIs (PySem.slot_list_getitem.lookup) ?_ (by with_unfolding_all rfl)
  refine wpAny_getItem_list_slice ht.isList (Heap.IsSliceOf.new _ vl vu vs) pl pu ps (fun z => hk (Option.some.inj z)) ?_ (by rw [List.size_toArray]; omega)
  rw [pick_eq]
  refine ⟨.ref _, _, I5.laid (t' := s4.toks) (o := .lst (pickG xs k)) (fun b ob q => Heap.get?_push_of_some _ q) (Nat.le_refl _) ?_, rfl, q _ (I5.hok.fresh (Nat.le_refl _))⟩
  exact ⟨Nat.le_trans (pickG_len xs k) hz, _, 0, Vals.pick r k, Heap.get?_push_size _ rfl⟩
def hStep (te : TEh) (ts : TOh) : TEh := fun σ A Q => te σ A fun d A1 => ts σ A1 fun o A2 => match o with
  | none => False
  | some k => match decide (k = 0) with
    | true => False
    | false => match d with
      | .ptr i => ∃ ds, A2[i]? = some (.lst ds) ∧ NewQ A2 (.lst (pickG ds k)) Q
      | .scr ns => NewQ A2 (.lst ((pickG ns k).map fun n => .v (.int n))) Q
      | _ => False
theorem ph_step {te : TEh} {ts : TOh} (he : PE X e (lift X.K te)) (hst : PO X (some st) (liftO X.K ts)) : PE X (.Subscript e (.Slice none none (some st) p3) pos) (lift X.K (hStep te ts)) :=
  (pe_stepL he hst).imp fun σ H Q ⟨θ, σh, A, Qh, rs, ra, w, k⟩ => ⟨θ, σh, A, _, rs, ra, w, fun θ1 H1 A1 v d e1 ra1 r1 w1 => ⟨θ1, σh, A1, _, rs.ext e1, ra1, w1, fun θ2 H2 A2 o e2 ra2 w2 => by
    split at w2
    · exact w2.elim
    · rename_i k'
      split at w2
      · exact w2.elim
      · rename_i hk
        have hk := of_decide_eq_false hk
        have r2 := r1.ext e2
        have k2 := (k.ext e1).ext e2
        split at w2
        · obtain ⟨ds, h0, q⟩ := w2
          cases r2 with
          | ptr hi =>
            obtain ⟨xs, g, rx⟩ := ra2.ok _ _ _ hi h0
            exact ⟨_, xs, k', rfl, rfl, hk, SqL.of g, fun p hp => k2.lst ra2 (rx.pick k') q hp⟩
        · cases r2 with
          | scr hs =>
            refine ⟨_, _, k', rfl, rfl, hk, hs.l, fun p hp => k2.lst ra2 ?_ w2 hp⟩
            rw [pickG_map]
            exact RDs.scal V.int _
        · exact w2.elim⟩⟩
end
end Rp

/-! What stays: the objects outside M are kept; a def's own objects by place. -/
namespace Rp
open PySem PySem.Spec PyProof.Rows L2
def Kp (M : List Nat) (A A' : OH) : Prop := ∀ (i : Nat) (o : O), i ∉ M → A[i]? = some o → A'[i]? = some o
theorem Kp.refl (M : List Nat) (A : OH) : Kp M A A := fun _ _ _ h => h
theorem Kp.trans {M : List Nat} {A B C : OH} (a : Kp M A B) (b : Kp M B C) : Kp M A C := fun i o n h => b i o n (a i o n h)
theorem Kp.mono {M N : List Nat} {A B : OH} (a : Kp M A B) (h : ∀ i ∈ M, i ∈ N) : Kp N A B := fun i o n q => a i o (fun z => n (h i z)) q
theorem Kp.new {M : List Nat} {A A1 A2 : OH} {k : Nat} {o : O} (a : Kp M A A1) (n : New A1 k o A2) : Kp M A A2 := fun i u nm h => n.old (a i u nm h)
theorem Kp.of_new {M : List Nat} {A A2 : OH} {k : Nat} {o : O} (n : New A k o A2) : Kp M A A2 := fun i u nm h => n.old h
structure Loc (M : List Nat) (A0 : OH) (ls : List (Nat × O)) (A : OH) : Prop where
  kp : Kp M A0 A
  here : ∀ p ∈ ls, A[p.1]? = some p.2
  ne : ∀ p ∈ ls, p.1 ∉ M ∧ A0[p.1]? = none
  nd : (ls.map Prod.fst).Nodup
section
variable {M : List Nat} {A0 A A' : OH} {ls : List (Nat × O)} {k : Nat} {o o' : O}
theorem Loc.nil : Loc M A [] A := ⟨.refl _ _, (fun _ h => nomatch h), (fun _ h => nomatch h), List.nodup_nil⟩
theorem Loc.get (l : Loc M A0 ls A) {i : Nat} (h : ls[i]? = some (k, o)) : A[k]? = some o := l.here (k, o) (List.mem_of_getElem? h)
theorem Loc.get0 {r : List (Nat × O)} (l : Loc M A0 ((k, o) :: r) A) : A[k]? = some o := l.get (i := 0) rfl
theorem Loc.get1 {p : Nat × O} {r : List (Nat × O)} (l : Loc M A0 (p :: (k, o) :: r) A) : A[k]? = some o := l.get (i := 1) rfl
theorem Loc.get2 {p q : Nat × O} {r : List (Nat × O)} (l : Loc M A0 (p :: q :: (k, o) :: r) A) : A[k]? = some o := l.get (i := 2) rfl
theorem Loc.out (l : Loc M A0 ls A) {i : Nat} (h : ls[i]? = some (k, o)) : k ∉ M := (l.ne (k, o) (List.mem_of_getElem? h)).1
/-- a new object that one forgets -/
theorem Loc.new0 (l : Loc M A0 ls A) (n : New A k o A') : Loc M A0 ls A' := ⟨l.kp.new n, fun p hp => n.old (l.here p hp), l.ne, l.nd⟩
/-- .. that is one's own; m: the objects of M stand -/
theorem Loc.new (l : Loc M A0 ls A) (n : New A k o A') (m : ∀ i ∈ M, i < A.length) : Loc M A0 ((k, o) :: ls) A' := by
  have hk : k ∉ M := fun z => by have := m k z; have := n.eq; omega
  refine ⟨l.kp.new n, fun p hp => ?_, fun p hp => ?_, ?_⟩
  · rcases List.mem_cons.mp hp with rfl | hp
    · exact n.get
    · exact n.old (l.here p hp)
  · rcases List.mem_cons.mp hp with rfl | hp
    · refine ⟨hk, ?_⟩
      cases e : A0[k]? with
      | none => rfl
      | some u =>
        have := (List.getElem?_eq_some_iff.mp (l.kp k u hk e)).1
        have := n.eq
        omega
    · exact l.ne p hp
  · rw [List.map_cons, List.nodup_cons]
    refine ⟨fun z => ?_, l.nd⟩
    obtain ⟨p, hp, e⟩ := List.mem_map.mp z
    have := (List.getElem?_eq_some_iff.mp (l.here p hp)).1
    have := n.eq
    omega
theorem Loc.put (l : Loc M A0 ls A) {i : Nat} (h : ls[i]? = some (k, o)) (p : Put A k o' A') : Loc M A0 (ls.set i (k, o')) A' := by
  have hm := List.mem_of_getElem? h
  have hk := l.ne _ hm
  have hi := (List.getElem?_eq_some_iff.mp h).1
  refine ⟨fun j u nm q => p.old (fun z => by subst z; rw [hk.2] at q; cases q) (l.kp j u nm q), fun q hq => ?_, fun q hq => ?_, ?_⟩
  · obtain ⟨j, hj, e⟩ := List.mem_iff_getElem.mp hq
    rw [List.length_set] at hj
    by_cases c : i = j
    · subst c
      rw [List.getElem_set_self] at e
      rw [← e]
      exact p.get
    · rw [List.getElem_set_ne c] at e
      have hq' : ls[j]? = some q := by rw [List.getElem?_eq_getElem hj, e]
      refine p.old (fun z => c ?_) (l.here q (List.mem_of_getElem? hq'))
      have h1 : (ls.map Prod.fst)[i]? = some k := by rw [List.getElem?_map, h]; rfl
      have h2 : (ls.map Prod.fst)[j]? = some k := by rw [List.getElem?_map, hq', ← z]; rfl
      obtain ⟨a1, b1⟩ := List.getElem?_eq_some_iff.mp h1
      obtain ⟨a2, b2⟩ := List.getElem?_eq_some_iff.mp h2
      exact (List.getElem_inj l.nd).mp (b1.trans b2.symm)
  · rcases List.mem_or_eq_of_mem_set hq with q' | q'
    · exact l.ne q q'
    · rw [q']; exact hk
  · have e : (ls.set i (k, o')).map Prod.fst = ls.map Prod.fst := by
      rw [List.map_set]
      show (ls.map Prod.fst).set i k = _
      have h1 : (ls.map Prod.fst)[i]? = some k := by rw [List.getElem?_map, h]; rfl
      obtain ⟨a1, b1⟩ := List.getElem?_eq_some_iff.mp h1
      rw [← b1, List.set_getElem_self]
    rw [e]
    exact l.nd
theorem Loc.put0 {r : List (Nat × O)} (l : Loc M A0 ((k, o) :: r) A) (p : Put A k o' A') : Loc M A0 ((k, o') :: r) A' := l.put (i := 0) rfl p
theorem Loc.put1 {q : Nat × O} {r : List (Nat × O)} (l : Loc M A0 (q :: (k, o) :: r) A) (p : Put A k o' A') : Loc M A0 (q :: (k, o') :: r) A' := l.put (i := 1) rfl p
theorem Loc.kept (l : Loc M A0 ls A) {N : List Nat} (k : Kp N A A') (h : ∀ i ∈ N, i ∈ M) : Loc M A0 ls A' := ⟨l.kp.trans (k.mono h), fun p hp => k _ _ (fun z => (l.ne p hp).1 (h _ z)) (l.here p hp), l.ne, l.nd⟩
theorem Loc.drop {p : Nat × O} (l : Loc M A0 (p :: ls) A) : Loc M A0 ls A := ⟨l.kp, fun q hq => l.here q (List.mem_cons_of_mem _ hq), fun q hq => l.ne q (List.mem_cons_of_mem _ hq), (List.nodup_cons.mp l.nd).2⟩
end
theorem lt_of_at {A : OH} {k : Nat} {o : O} (h : A[k]? = some o) : k < A.length := (List.getElem?_eq_some_iff.mp h).1
theorem dI_len (ns : List Int) : (dI ns).length = ns.length := List.length_map _
theorem dI_app (ns ms : List Int) : dI (ns ++ ms) = dI ns ++ dI ms := List.map_append
theorem dI_at {ns : List Int} {i : Nat} {d : D} (h : (dI ns)[i]? = some d) : ∃ n, ns[i]? = some n ∧ d = .v (.int n) := by
  rw [List.getElem?_map] at h
  cases e : ns[i]? with
  | none => rw [e] at h; cases h
  | some n => rw [e] at h; exact ⟨n, rfl, (Option.some.inj h).symm⟩
theorem mem_dI {ns : List Int} {d : D} (h : d ∈ dI ns) : ∃ n ∈ ns, d = .v (.int n) := by
  obtain ⟨n, hn, e⟩ := List.mem_map.mp h
  exact ⟨n, hn, e.symm⟩
theorem pickG_dI (ns : List Int) (st : Int) : pickG (dI ns) st = dI (pickG ns st) := pickG_map _ _ _
theorem cutD_dI (ns : List Int) (lo hi : Option Int) : cutD (dI ns) lo hi = dI (cutI ns lo hi) := by
  unfold cutD cutI dI
  rw [List.length_map, List.map_take, List.map_drop]
theorem cutI_len (ns : List Int) (lo hi : Option Int) : (cutI ns lo hi).length ≤ ns.length := by
  unfold cutI
  rw [List.length_take, List.length_drop]
  omega
/-! ### typed data: == decides equality -/
structure Enc {α : Type} [DecidableEq α] (A : OH) (f : α → D) (g : α → PyData) (n : Nat) : Prop where
  dp : ∀ a, DP A (f a) (g a)
  lay : ∀ a, (g a).canLay0 = true
  dep : ∀ a, (g a).depth ≤ n
  eqv : ∀ a b, PyData.eqv (g a) (g b) = decide (a = b)
section
variable {α β : Type} [DecidableEq α] [DecidableEq β] {A : OH} {f : α → D} {g : α → PyData} {f' : β → D} {g' : β → PyData} {n m : Nat}
theorem Enc.int : Enc A (fun i : Int => .v (.int i)) (fun i => .int i) 0 :=
  ⟨fun i => .int i, fun i => by simp only [PyData.canLay0], fun i => by simp only [PyData.depth]; exact Nat.le_refl _, eqv_int⟩
theorem Enc.nat : Enc A (fun i : Nat => .v (.int i)) (fun i => .int i) 0 :=
  ⟨fun i => .int i, fun i => by simp only [PyData.canLay0], fun i => by simp only [PyData.depth]; exact Nat.le_refl _, fun a b => by rw [eqv_int]; exact decide_eq_decide.mpr Int.ofNat_inj⟩
theorem Enc.bool : Enc A (fun i : Bool => .v (.bl i)) (fun i => .bool i) 0 :=
  ⟨fun i => .bl i, fun i => by simp only [PyData.canLay0], fun i => by simp only [PyData.depth]; exact Nat.le_refl _, fun a b => by
    rw [show PyData.eqv (.bool a) (.bool b) = (a == b) by cases a <;> cases b <;> rfl, Bool.eq_iff_iff]
    simp⟩
theorem Enc.all (E : Enc A f g n) : (∀ as : List α, DPs A (as.map f) (as.map g)) ∧ (∀ as : List α, PyData.canLayAll0 (as.map g) = true) ∧ (∀ as : List α, PyData.depthAll (as.map g) ≤ n) ∧ ∀ as bs : List α, PyData.eqvAll (as.map g) (bs.map g) = decide (as = bs) := by
  refine ⟨fun as => ?_, fun as => ?_, fun as => ?_, fun as => ?_⟩
  · induction as with
    | nil => exact .nil
    | cons a as ih => exact .cons (E.dp a) ih
  · induction as with
    | nil => rfl
    | cons a as ih =>
      show PyData.canLayAll0 (g a :: as.map g) = true
      simp only [PyData.canLayAll0, E.lay a, ih, Bool.and_self]
  · induction as with
    | nil => show PyData.depthAll [] ≤ n; simp only [PyData.depthAll]; exact Nat.zero_le _
    | cons a as ih =>
      show PyData.depthAll (g a :: as.map g) ≤ n
      have := E.dep a
      simp only [PyData.depthAll]
      omega
  · induction as with
    | nil =>
      intro bs
      cases bs with
      | nil => rfl
      | cons b bs => rfl
    | cons a as ih =>
      intro bs
      cases bs with
      | nil => rfl
      | cons b bs =>
        show (PyData.eqv (g a) (g b) && PyData.eqvAll (as.map g) (bs.map g)) = _
        rw [ih, E.eqv, Bool.eq_iff_iff]
        simp
theorem Enc.tup (E : Enc A f g n) : Enc A (fun as : List α => .tup (as.map f)) (fun as => .tuple (as.map g)) (n + 1) := by
  obtain ⟨h1, h2, h3, h4⟩ := E.all
  exact ⟨fun as => .tup (h1 as), fun as => by simp only [PyData.canLay0]; exact h2 as, fun as => by have := h3 as; simp only [PyData.depth]; omega, fun a b => by simp only [PyData.eqv]; exact h4 a b⟩
theorem Enc.pair (E : Enc A f g n) (E' : Enc A f' g' m) : Enc A (fun p : α × β => .tup [f p.1, f' p.2]) (fun p => .tuple [g p.1, g' p.2]) (max n m + 1) :=
  ⟨fun p => .tup (.cons (E.dp _) (.cons (E'.dp _) .nil)), fun p => by simp only [PyData.canLay0, PyData.canLayAll0, E.lay, E'.lay, Bool.and_self],
    fun p => by have := E.dep p.1; have := E'.dep p.2; simp only [PyData.depth, PyData.depthAll]; omega,
    fun p q => by
      obtain ⟨a, b⟩ := p
      obtain ⟨c, e⟩ := q
      simp only [PyData.eqv, PyData.eqvAll]
      rw [E.eqv, E'.eqv, Bool.eq_iff_iff]
      simp⟩
theorem Enc.sh (E : Enc A f g n) (hn : n ≤ 64) (a : α) : SeqAt.shaped (g a) = true := by
  unfold SeqAt.shaped
  rw [E.lay, Bool.true_and, decide_eq_true_eq]
  exact Nat.le_trans (E.dep a) hn
theorem Enc.eqd (E : Enc A f g n) (hn : n ≤ 64) (a b : α) : EqD A (f a) (f b) (decide (a = b)) := ⟨_, _, E.dp a, E.dp b, E.sh hn a, E.sh hn b, E.eqv a b⟩
theorem Enc.lst (E : Enc A f g n) (hn : n ≤ 63) {i j : Nat} {as bs : List α} (h : A[i]? = some (.lst (as.map f))) (h' : A[j]? = some (.lst (bs.map f))) : EqD A (.ptr i) (.ptr j) (decide (as = bs)) := by
  obtain ⟨h1, h2, h3, h4⟩ := E.all
  have sh : ∀ as : List α, SeqAt.shaped (.list (as.map g)) = true := fun as => by
    have := h3 as
    unfold SeqAt.shaped
    rw [Bool.and_eq_true, decide_eq_true_eq]
    refine ⟨by simp only [PyData.canLay0]; exact h2 as, ?_⟩
    simp only [PyData.depth]
    omega
  exact ⟨_, _, .lst h (h1 as), .lst h' (h1 bs), sh as, sh bs, by simp only [PyData.eqv]; exact h4 as bs⟩
end
theorem EqD.ints {A : OH} {i j : Nat} {ns ms : List Int} (h : A[i]? = some (.lst (dI ns))) (h' : A[j]? = some (.lst (dI ms))) : EqD A (.ptr i) (.ptr j) (decide (ns = ms)) := Enc.int.lst (by decide) h h'
theorem cutD_last (xs : List D) (x : D) : cutD (xs ++ [x]) none (some (-1)) = xs := by
  unfold cutD HT.sIx
  have e : ((xs ++ [x]).length : Nat) = xs.length + 1 := by simp
  rw [e]
  simp only [show ((-1 : Int) < 0) by decide, if_true, List.drop_zero, Nat.sub_zero]
  rw [show ((-1 : Int) + ((xs.length + 1 : Nat) : Int)).toNat = xs.length by omega]
  simp
theorem cutD_nat (xs : List D) (i j : Nat) (hi : i ≤ j) (hj : j ≤ xs.length) : cutD xs (some (i : Int)) (some (j : Int)) = (xs.drop i).take (j - i) := by
  unfold cutD
  rw [HT.sIx_nat, HT.sIx_nat, Nat.min_eq_left hj, Nat.min_eq_left (show i ≤ xs.length by omega)]
theorem cutD_from (xs : List D) (i : Nat) (hi : i ≤ xs.length) : cutD xs (some (i : Int)) none = xs.drop i := by
  unfold cutD
  rw [HT.sIx_nat, Nat.min_eq_left hi]
  show ((xs.drop i).take (xs.length - i)) = _
  rw [List.take_of_length_le (by rw [List.length_drop]; omega)]
theorem cutD_to (xs : List D) (j : Nat) (hj : j ≤ xs.length) : cutD xs none (some (j : Int)) = xs.take j := by
  unfold cutD
  rw [HT.sIx_nat, Nat.min_eq_left hj]
  rfl
/-- 1, -1: the test of a truth that is known -/
theorem Br.of {b : Bool} {p q : Prop} (h : b = true → p) (h' : b = false → q) : Br b p q := ⟨h, h'⟩
end Rp

/-! Calls of defs with keyword-only parameters, over data. -/
namespace Rp
open PySem PySem.Spec PyProof.Rows L2
theorem RDs.scalV {K : PySem.W.Frag} {θ : List Addr} {H : Hp} : ∀ xs : List V, RDs K θ H xs (xs.map D.v)
  | [] => .nil
  | x :: xs => .cons (.v _) (RDs.scalV xs)
/-- what is put where, the same of values and of data -/
structure KwD (gV : List V → List V → List V) (gD : List D → List D → List D) : Prop where
  rd : ∀ {K : PySem.W.Frag} {θ : List Addr} {H : Hp} {vs zs : List V} {ds es : List D}, RDs K θ H vs ds → RDs K θ H zs es → RDs K θ H (gV vs zs) (gD ds es)
/-- a keyword-only parameter's default stands in the def's own dict -/
theorem funD_of {K : PySem.W.Frag} {x qual : Str} {params : Arguments} {body : List Stmt} {scope : Scope} {kws : List (Str × V)} {f D : Addr} {oc : Value} {od : Option Addr} {doc pm : Value} {an : Option Addr} {cdv ct : Value} {osl : Array (Option Value)}
    (l : K.lookup f = some ⟨oc, od, .func (PySem.W.fnOf x qual params body scope .none (.ref D) doc pm an cdv ct), osl⟩) (c : PySem.W.codeIn K cdv qual = true) (k : PySem.W.keepIn K (.ref f) = true) (h : ∀ q ∈ kws, ∃ u, PySem.W.nsIn K D q.1 = some (some u) ∧ RelV q.2 u) :
    FunD K x qual params body scope [] kws f (PySem.W.fnOf x qual params body scope .none (.ref D) doc pm an cdv ct) :=
  ⟨⟨oc, od, .none, .ref D, doc, pm, an, cdv, ct, osl, rfl, l, c, .inl ⟨rfl, rfl⟩, .inr ⟨D, rfl, h⟩⟩, k⟩
section
variable {X : Cx} {CX : CXT} {k n N mm : Nat} {f C : Addr} {fd : FuncData} {ps ks : List Str} {sp : Sph} {x m : Str} {p pos apos kpos : Pos} {e o : Expr} {es : List Expr} {kws : List Keyword} {ta : TEh} {t tk : TAh} {us : List Value} {dd : List V} {nm : Option Str}
  {g : List Value → List Value → List Value} {gV : List V → List V → List V} {gD : List D → List D → List D}
theorem pkh_nil : PK X [] (liftA X.K hNil) := ⟨fun pos pins s σ H Q I ⟨θ, σh, A, Qh, rs, ra, w, k⟩ => pk_nil.run pos pins s σ H Q I (k _ _ _ _ _ (.refl _ _) ra .nil w)⟩
theorem pkh_cons {t : TEh} {u : TAh} (ha : PE X e (lift X.K t)) (hr : PK X kws (liftA X.K u)) : PK X (⟨nm, e, kpos⟩ :: kws) (liftA X.K (hCons t u)) :=
  ⟨fun pos pins s σ H Q I ⟨θ, σh, A, Qh, rs, ra, w, k⟩ => (pk_cons ha hr).run pos pins s σ H Q I ⟨θ, σh, A, _, rs, ra, w, fun θ1 H1 A1 v d e1 ra1 r1 w1 => ⟨θ1, σh, A1, _, rs.ext e1, ra1, w1, fun θ2 H2 A2 vs ds e2 ra2 r2 w2 =>
    k _ _ _ _ _ (e1.trans e2) ra2 (.cons (r1.ext e2) r2) w2⟩⟩⟩
/-- o.m(e, ..), the keyword-only ones left out -/
def hMethD (C : Addr) (m : Str) (n : Nat) (dd : List V) (sp : Sph) (ta : TEh) (t : TAh) : TEh := fun σ A Q => ta σ A fun x A1 => match x with
  | .ptr i => ∃ fs, A1[i]? = some (.ins C fs) ∧ fs.lookup m = none ∧ t σ A1 fun ds A2 => nArgs (ds.length + 1 + dd.length) n (Ask sp (.ptr i :: (ds ++ dd.map D.v)) A2 Q)
  | _ => False
theorem ph_methD {pl : Sem Bool} (he : PE X o (lift X.K ta)) (c : Cls X.K C) (hm : Meth X.K C m f) (F : FnOk X.prog X.w X.K X.mg X.base CX0 k f fd ps (spOf X.K n sp)) (hr : Room k X.A) (hb : ∃ us, Vals dd us ∧ L2.Binds X.K fd ps us) (ha : PA X (e :: es) (liftA X.K t))
    (hst : starEach (e :: es) X.env = (false, eval e X.env) :: starEach es X.env := by rfl) (hpl : (backTo pos (starEach es X.env)).any (·.1) = false := by rfl)
    (ht : eval (.Call (.Attribute o m apos) (e :: es) [] pos) X.env = (do
      let ov ← eval o X.env
      standAt apos.atName
      let (f, first) ← holding [ov] (getMethod ov m pl)
      callWith pos f first (backTo pos (starEach (e :: es) X.env)) (backToKw pos (keywordEach [] X.env))) := by rfl) :
    PE X (.Call (.Attribute o m apos) (e :: es) [] pos) (lift X.K (hMethD C m n dd sp ta t)) := by
  obtain ⟨us, hd, hb⟩ := hb
  exact (pe_meth (pl := pl) (E := fun _ _ _ => False) he c hm F hr hb hd pass0 ha hst hpl ht).imp fun σ H Q ⟨θ, σh, A, Qh, rs, ra, w, k⟩ => ⟨θ, σh, A, _, rs, ra, w, fun θ1 H1 A1 v d e1 ra1 r1 w1 => by
    split at w1
    · obtain ⟨fs, h1, h2, w1⟩ := w1
      cases r1 with
      | ptr hi =>
        obtain ⟨dx, xs, g, _, rf⟩ := ra1.ok _ _ _ hi h1
        refine ⟨_, dx, xs, rfl, g, rf.lookup_none h2, θ1, σh, A1, _, rs.ext e1, ra1, w1, fun θ2 H2 A2 vs ds e2 ra2 r2 w2 => ?_⟩
        obtain ⟨hn, w2⟩ := nArgs_ok w2
        exact ⟨by rw [List.length_cons, List.length_append, r2.length]; omega, θ2, _, A2, Qh, .cons ((RD.ptr hi).ext e2) (r2.append (RDs.scalV dd)), ra2, w2.h, (k.ext e1).ext e2⟩
    · exact w1.elim⟩
def tMethN (C : Addr) (m : Str) (n mm : Nat) (sp : Sp) (gV : List V → List V → List V) (E : XK) (ta : TE) (t tk : TA) : TE := fun σ H Q => ta σ H fun x H1 => ∃ a dx fs, x = .ref a ∧ H1 a = some (.ins C dx fs) ∧ fs.lookup m = none ∧
  t σ H1 fun vs H2 => tk σ H2 fun zs H3 => vs.length = n ∧ zs.length = mm ∧ sp (gV (.ref a :: vs) zs) H3 Q E
theorem pe_methN {pl : Sem Bool} {ta : TE} {t tk : TA} {sp : Sp} {E : XK} (he : PE X o ta) (c : Cls X.K C) (hm : Meth X.K C m f) (F : FnOk X.prog X.w X.K X.mg X.base CX k f fd ps sp) (hr : Room k X.A) (hb : KBn X.K fd ps (n + 1) ks g gV) (hx : Passes CX X E) (ha : PA X (e :: es) t) (hkw : PK X kws tk)
    (hall : (backToKw pos (keywordEach kws X.env)).all (·.1.isSome) = true := by rfl) (hks : (backToKw pos (keywordEach kws X.env)).filterMap (·.1) = ks := by rfl)
    (hst : starEach (e :: es) X.env = (false, eval e X.env) :: starEach es X.env := by rfl) (hpl : ((backTo pos (starEach (e :: es) X.env)).any (·.1) || (backToKw pos (keywordEach kws X.env)).any (·.1.isNone)) = false := by rfl)
    (ht : eval (.Call (.Attribute o m apos) (e :: es) kws pos) X.env = (do
      let ov ← eval o X.env
      standAt apos.atName
      let (f, first) ← holding [ov] (getMethod ov m pl)
      callWith pos f first (backTo pos (starEach (e :: es) X.env)) (backToKw pos (keywordEach kws X.env))) := by rfl) :
    PE X (.Call (.Attribute o m apos) (e :: es) kws pos) (tMethN C m n ks.length sp gV E ta t tk) := by
  refine ⟨fun pins s σ H Q I h => ?_⟩
  refine PySem.W.methodCall_KW (pl := pl) (thn (he.run pins s σ H _ I h) fun u s1 ⟨x, H1, I1, rx, a, dx, fs, ex, ea, l, q⟩ => ?_) ht
  subst ex
  obtain rfl : u = Value.ref a := rx
  refine getmeth_ok I1 ea c hm l ?_
  refine PySem.W.callWith_KW (first := [.ref a]) (h₀ := X.base) I.ok.mod.kin hm.kp hall (thn (ha.run pos pins s1 σ H1 _ I1 q) fun us s2 ⟨vs, H2, I2, r, q2⟩ => ?_) hpl hst
  refine thn (hkw.run pos pins s2 σ H2 _ I2 q2) fun ws s3 ⟨zs, H3, I3, rz, l1, l2, q3⟩ => ⟨I3.kIn, ?_⟩
  rw [hks]
  exact run_fnN (us := .ref a :: us) (vs := .ref a :: vs) F hr hb hx I3 (.cons rfl r) rz (by rw [List.length_cons, l1]) l2 q3
/-- o.m(e, .., k = v, ..) -/
def hMethK (C : Addr) (m : Str) (N n mm : Nat) (gD : List D → List D → List D) (sp : Sph) (ta : TEh) (t tk : TAh) : TEh := fun σ A Q => ta σ A fun x A1 => match x with
  | .ptr i => ∃ fs, A1[i]? = some (.ins C fs) ∧ fs.lookup m = none ∧ t σ A1 fun ds A2 => tk σ A2 fun es A3 => nArgs ds.length n (nArgs es.length mm (nArgs (gD (.ptr i :: ds) es).length N (Ask sp (gD (.ptr i :: ds) es) A3 Q)))
  | _ => False
theorem ph_methK {pl : Sem Bool} (he : PE X o (lift X.K ta)) (c : Cls X.K C) (hm : Meth X.K C m f) (F : FnOk X.prog X.w X.K X.mg X.base CX0 k f fd ps (spOf X.K N sp)) (hr : Room k X.A) (hg : KwD gV gD) (hb : ∃ g, KBn X.K fd ps (n + 1) ks g gV) (ha : PA X (e :: es) (liftA X.K t)) (hkw : PK X kws (liftA X.K tk))
    (hall : (backToKw pos (keywordEach kws X.env)).all (·.1.isSome) = true := by rfl) (hks : (backToKw pos (keywordEach kws X.env)).filterMap (·.1) = ks := by rfl)
    (hst : starEach (e :: es) X.env = (false, eval e X.env) :: starEach es X.env := by rfl) (hpl : ((backTo pos (starEach (e :: es) X.env)).any (·.1) || (backToKw pos (keywordEach kws X.env)).any (·.1.isNone)) = false := by rfl)
    (ht : eval (.Call (.Attribute o m apos) (e :: es) kws pos) X.env = (do
      let ov ← eval o X.env
      standAt apos.atName
      let (f, first) ← holding [ov] (getMethod ov m pl)
      callWith pos f first (backTo pos (starEach (e :: es) X.env)) (backToKw pos (keywordEach kws X.env))) := by rfl) :
    PE X (.Call (.Attribute o m apos) (e :: es) kws pos) (lift X.K (hMethK C m N n ks.length gD sp ta t tk)) := by
  obtain ⟨g, hb⟩ := hb
  exact (pe_methN (pl := pl) (E := fun _ _ _ => False) he c hm F hr hb pass0 ha hkw hall hks hst hpl ht).imp fun σ H Q ⟨θ, σh, A, Qh, rs, ra, w, k⟩ => ⟨θ, σh, A, _, rs, ra, w, fun θ1 H1 A1 v d e1 ra1 r1 w1 => by
    split at w1
    · obtain ⟨fs, h1, h2, w1⟩ := w1
      cases r1 with
      | ptr hi =>
        obtain ⟨dx, xs, g, _, rf⟩ := ra1.ok _ _ _ hi h1
        refine ⟨_, dx, xs, rfl, g, rf.lookup_none h2, θ1, σh, A1, _, rs.ext e1, ra1, w1, fun θ2 H2 A2 vs ds e2 ra2 r2 w2 => ⟨θ2, σh, A2, _, (rs.ext e1).ext e2, ra2, w2, fun θ3 H3 A3 zs es e3 ra3 r3 w3 => ?_⟩⟩
        obtain ⟨hn, w3⟩ := nArgs_ok w3
        obtain ⟨hn2, w3⟩ := nArgs_ok w3
        obtain ⟨hn3, w3⟩ := nArgs_ok w3
        have rr := hg.rd (RDs.cons ((RD.ptr hi).ext (e2.trans e3)) (r2.ext e3)) r3
        exact ⟨by rw [r2.length]; exact hn, by rw [r3.length]; exact hn2, by rw [rr.length]; exact hn3, θ3, _, A3, Qh, rr, ra3, w3.h, ((k.ext e1).ext e2).ext e3⟩
    · exact w1.elim⟩
/-- f(e, ..), the keyword-only ones left out -/
def hCallD (n : Nat) (dd : List V) (sp : Sph) (t : TAh) : TEh := fun σ A Q => t σ A fun ds A1 => nArgs (ds.length + dd.length) n (Ask sp (ds ++ dd.map D.v) A1 Q)
theorem ph_callD (F : FnOk X.prog X.w X.K X.mg X.base CX0 k f fd ps (spOf X.K n sp)) (room : Room k X.A) (hg : Gl X x) (hm : X.mg x = some (.ref f)) (hk : PySem.W.keepIn X.K (.ref f) = true) (hb : ∃ us, Vals dd us ∧ L2.Binds X.K fd ps us)
    (ha : PA X (e :: es) (liftA X.K t)) (hdb : (x == ("__debug__" : Str)) = false := by decide) (hst : starEach (e :: es) X.env = (false, eval e X.env) :: starEach es X.env := by rfl)
    (hpl : (backTo pos (starEach es X.env)).any (·.1) = false := by rfl) : PE X (.Call (.Name x p) (e :: es) [] pos) (lift X.K (hCallD n dd sp t)) := by
  obtain ⟨us, hd, hb⟩ := hb
  exact (pe_call (E := fun _ _ _ => False) F room hg hm hk hb hd pass0 ha hdb hst hpl).imp fun σ H Q ⟨θ, σh, A, Qh, rs, ra, w, k⟩ => ⟨θ, σh, A, _, rs, ra, w, fun θ1 H1 A1 vs ds e1 ra1 r1 w1 => by
    obtain ⟨hn, w1⟩ := nArgs_ok w1
    exact ⟨by rw [List.length_append, r1.length]; exact hn, θ1, _, A1, Qh, r1.append (RDs.scalV dd), ra1, w1.h, k.ext e1⟩⟩
/-- f(e, .., k = v, ..) -/
def hCallK (N n mm : Nat) (gD : List D → List D → List D) (sp : Sph) (t tk : TAh) : TEh := fun σ A Q => t σ A fun ds A1 => tk σ A1 fun es A2 => nArgs ds.length n (nArgs es.length mm (nArgs (gD ds es).length N (Ask sp (gD ds es) A2 Q)))
theorem ph_callK (F : FnOk X.prog X.w X.K X.mg X.base CX0 k f fd ps (spOf X.K N sp)) (room : Room k X.A) (hg : Gl X x) (hm : X.mg x = some (.ref f)) (hk : PySem.W.keepIn X.K (.ref f) = true) (hgd : KwD gV gD) (hb : ∃ g, KBn X.K fd ps n ks g gV)
    (ha : PA X (e :: es) (liftA X.K t)) (hkw : PK X kws (liftA X.K tk)) (hall : (backToKw pos (keywordEach kws X.env)).all (·.1.isSome) = true := by rfl) (hks : (backToKw pos (keywordEach kws X.env)).filterMap (·.1) = ks := by rfl)
    (hdb : (x == ("__debug__" : Str)) = false := by decide) (hst : starEach (e :: es) X.env = (false, eval e X.env) :: starEach es X.env := by rfl)
    (hpl : ((backTo pos (starEach (e :: es) X.env)).any (·.1) || (backToKw pos (keywordEach kws X.env)).any (·.1.isNone)) = false := by rfl) : PE X (.Call (.Name x p) (e :: es) kws pos) (lift X.K (hCallK N n ks.length gD sp t tk)) := by
  obtain ⟨g, hb⟩ := hb
  exact (pe_callN (E := fun _ _ _ => False) F room hg hm hk hb pass0 ha hkw hall hks hdb hst hpl).imp fun σ H Q ⟨θ, σh, A, Qh, rs, ra, w, k⟩ => ⟨θ, σh, A, _, rs, ra, w, fun θ1 H1 A1 vs ds e1 ra1 r1 w1 => ⟨θ1, σh, A1, _, rs.ext e1, ra1, w1, fun θ2 H2 A2 zs es e2 ra2 r2 w2 => by
    obtain ⟨hn, w2⟩ := nArgs_ok w2
    obtain ⟨hn2, w2⟩ := nArgs_ok w2
    obtain ⟨hn3, w2⟩ := nArgs_ok w2
    have rr := hgd.rd (r1.ext e2) r2
    exact ⟨by rw [r1.length]; exact hn, by rw [r2.length]; exact hn2, by rw [rr.length]; exact hn3, θ2, _, A2, Qh, rr, ra2, w2.h, (k.ext e1).ext e2⟩⟩⟩
end
theorem kwd_app : KwD (fun vs zs => vs ++ zs) (fun ds es => ds ++ es) := ⟨fun r1 r2 => r1.append r2⟩
end Rp

/-! enumerate and zip of a list or a tuple, over data. -/
namespace PySem
set_option maxHeartbeats 1000000 in
theorem meets_enumerate_new1 {v : Value} {o : Obj} {H : Heap → Prop} (B : Begins v o H) :
    Meets (Builtin.«enumerate.__new__» ⟨[.type "enumerate", v], []⟩) (fun _ R s => H s.heap ∧
      R (.ok (.ret (.ref (s.heap.push o).objs.size))) { s with heap := (s.heap.push o).push { cls := .type "enumerate", data := .fields #[.none, .bool false, .ref s.heap.objs.size, rawInt 0, .none, .none] } }) :=
  .of_wp fun prog w A R s h => by
    obtain ⟨hp, g, d, tk, os⟩ := s; obtain ⟨h1, h⟩ := h
    have hsub := sub_enumerate
    have q1 : ∀ {A' : Around} {E : Value → Shared → Prop} {Q : Value → Shared → Prop}, Q (.ref hp.objs.size) ⟨hp.push o, g, d, tk, os⟩ → wpAny (model prog w) A' (pyIter v) Q E ⟨hp, g, d, tk, os⟩ :=
      fun q => B.iter prog w _ _ ⟨hp, g, d, tk, os⟩ _ h1 q
    wp_walk using q1
    refine wpAny_stack_any fun st => wpAny_pure ?_
    split
    · rename_i c _ _ _ _ _
      cases (c == Value.type "enumerate")
      · wp_walk using q1
        exact ⟨_, rfl, h⟩
      · wp_walk using q1
        exact ⟨_, rfl, h⟩
    · wp_walk using q1
      exact ⟨_, rfl, h⟩
/-- enumerate(v): its two new cells -/
theorem enum_begins1 {prog : Program} {w : World} {A : Around} {E : Value → Shared → Prop} {s : Shared} {v : Value} {o : Obj} {H : Heap → Prop} {Q : Value → Shared → Prop} (B : Begins v o H) (h1 : H s.heap)
    (h : ∀ h', IsEnum h' (s.heap.objs.size + 1) s.heap.objs.size 0 .none → h'.get? s.heap.objs.size = some o → h'.objs.size = s.heap.objs.size + 2 →
      (∀ b o, s.heap.get? b = some o → h'.get? b = some o) → Q (.ref (s.heap.objs.size + 1)) { s with heap := h' }) :
    wpAny (model prog w) A (call (.type "enumerate") [v]) Q E s := by
  refine callType_new F.called_enumerate (by decide) (F.typeCall_enumerate_1 _) (F.newCall_enumerate_1 _) (fun obj => F.args_object_init_2 obj _) F.entry_enumerate_new
    (meets_enumerate_new1 B) ⟨h1, ?_⟩
  have hz : (s.heap.push o).objs.size = s.heap.objs.size + 1 := Heap.size_push ..
  show _ ∧ _
  rw [hz]
  have he : IsEnum ((s.heap.push o).push { cls := .type "enumerate", data := .fields #[.none, .bool false, .ref s.heap.objs.size, rawInt 0, .none, .none] }) (s.heap.objs.size + 1) s.heap.objs.size 0 .none := by
    have := Heap.get?_push_size (s.heap.push o) (o := { cls := .type "enumerate", data := .fields #[.none, .bool false, .ref s.heap.objs.size, rawInt 0, .none, .none] }) rfl
    rw [hz] at this; exact this
  refine ⟨⟨_, he, rfl⟩, h _ he (Heap.get?_push_of_some _ (Heap.get?_push_size _ B.free)) (by rw [Heap.size_push, hz]) fun b o x => Heap.get?_push_of_some _ (Heap.get?_push_of_some _ x)⟩
end PySem
namespace Rp
open PySem PySem.Spec PyProof.Rows L2
/-- the tuple at a, each item in a new pair -/
def IteT (K : PySem.W.Frag) (a : Addr) : It :=
  ⟨fun i H => ∃ (xs : List V) (x : V), SqT K H a xs ∧ xs[i]? = some x, fun i H v H' => ∃ T x, v = .ref T ∧ H T = none ∧ H' = upd H T (.tup [.int (i : Nat), x]) ∧ ∀ xs, SqT K H a xs → xs[i]? = some x, fun i H => ∃ xs : List V, SqT K H a xs ∧ xs.length ≤ i⟩
theorem turn_enumT {P : Program} {w : World} {K : PySem.W.Frag} {elts : List Expr} {kk : Nat} {tpos : Pos} (a e it : Addr) :
    Turn P w K (.Tuple elts kk tpos) (IteT K a) [e, it] e (fun i h => (∃ old, IsEnum h e it ((i : Nat) : Int) old) ∧ h.IsTupleIter it a i ∧ e ≠ it) where
  mem := by simp
  obj := fun i h st b hb => by
    obtain ⟨⟨old, he⟩, ⟨o, ho, hc, hd⟩, _⟩ := st
    have e' : b = e ∨ b = it := by simpa using hb
    rcases e' with z | z
    · rw [z]; exact ⟨_, he, fun v q => nomatch q⟩
    · rw [z]; exact ⟨o, ho, fun v q => by rw [hd] at q; cases q⟩
  keep := fun i h h' st k => let ⟨⟨old, he⟩, hi, hne⟩ := st; ⟨⟨old, k e (by simp) _ he⟩, hi.at fun o q => k it (by simp) o q, hne⟩
  item := by
    intro X hP hw hK hc i pins s σ H E I hf st hg
    subst hP hw hK
    obtain ⟨⟨old, he⟩, hit, hne⟩ := st
    obtain ⟨xs, x, hq, hx⟩ := hg
    obtain ⟨its, rv, p, hz⟩ := I.tuple hq
    obtain ⟨u, hu, ru⟩ := rv.get hx
    have hel : e < s.heap.objs.size := Heap.lt_size he
    have hil : it < s.heap.objs.size := by obtain ⟨_, q, _⟩ := hit; exact Heap.lt_size q
    have hea : e ≠ a := fun z => by
      obtain ⟨o, h1, h2, _⟩ := id p
      rw [← z] at h1
      have h3 := he.symm.trans h1
      cases h3
      injection h2 with h2
      exact absurd h2 (by decide)
    have hia : a ≠ it := fun z => by
      obtain ⟨o, h1, h2, _⟩ := id p
      obtain ⟨o', h3, h4, _⟩ := hit
      rw [z, h3] at h1
      cases h1
      rw [h4] at h2
      injection h2 with h2
      exact absurd h2 (by decide)
    have hin : its.toArray[i]? = some u := by simpa using hu
    have hlt : i < its.toArray.size := by
      obtain ⟨h, _⟩ := Array.getElem?_eq_some_iff.mp hin
      exact h
    have D := Draws.tuple (prog := X.prog) (w := X.w) (A := X.A.in1) (I.ok.hd hc) it a hia its.toArray
    refine wpAny_pyNext_enum_itemC D he ⟨hit, p⟩ hlt hne (by simp [hne, hea]) fun x' h' tk hP ho hst hT hsz hk => ?_
    have ex : x' = u := Option.some.inj (hP.symm.trans hin)
    subst ex
    obtain ⟨hit', _⟩ := hst
    refine ⟨_, rfl, wpAny_letOwnedTupleGo_enum (s := { s with heap := h', toks := tk + 1 }) ho fun h'' he' sb => ?_⟩
    have hT2 : h''.get? s.heap.objs.size = some { cls := .type "tuple", data := .seq #[.int (i : Nat) tk, x'] } := (sb.2 _ (Nat.ne_of_gt hel)).trans hT
    have new : ObjOk X.prog X.w (upd H s.heap.objs.size (.tup [.int (i : Nat), x])) h'' s.heap.objs.size (.tup [.int (i : Nat), x]) :=
      ⟨by show 2 ≤ sizeLine; decide, [.int (i : Nat) tk, x'], .cons ⟨_, rfl⟩ (.cons ru .nil), ⟨_, hT2, rfl, _, rfl⟩⟩
    have I1 : Inv X pins σ (upd H s.heap.objs.size (.tup [.int (i : Nat), x])) { s with heap := h'', toks := tk + 1 } :=
      I.turnedNew (ch := [e, it]) (fun b ob hb q => (sb.2 b (fun z => hb (by simp [z]))).trans (hk b ob (fun z => hb (by simp [z])) (fun z => hb (by simp [z])) q)) hf (Nat.le_refl _) new
    refine ⟨.ref s.heap.objs.size, _, I1, rfl, ⟨_, x, rfl, I.hok.fresh (Nat.le_refl _), rfl, fun ys hy => by rw [I.tuple_inj hy hq]; exact hx⟩, ⟨⟨x', ?_⟩, hit'.at fun o q => (sb.2 it (Ne.symm hne)).trans q, hne⟩, fun b hb => ?_⟩
    · have e1 : ((i + 1 : Nat) : Int) = (i : Int) + 1 := by omega
      rw [e1]; exact he'
    · have hb' : b < s.heap.objs.size := by
        have e' : b = e ∨ b = it := by simpa using hb
        rcases e' with z | z
        · rw [z]; exact hel
        · rw [z]; exact hil
      rw [upd_ne (Nat.ne_of_lt hb')]
      exact (hf b hb).1
  done := by
    intro X hP hw hK hc i pins s σ H E I hf st hg
    subst hP hw hK
    obtain ⟨⟨old, he⟩, hit, hne⟩ := st
    obtain ⟨xs, hq, hx⟩ := hg
    obtain ⟨its, rv, p, hz⟩ := I.tuple hq
    obtain ⟨f0, f1, f2, f3, f4, f5⟩ := hf it (by simp)
    have hl := rv.length
    have hia : a ≠ it := fun z => by
      obtain ⟨o, h1, h2, _⟩ := id p
      obtain ⟨o', h3, h4, _⟩ := hit
      rw [z, h3] at h1
      cases h1
      rw [h4] at h2
      injection h2 with h2
      exact absurd h2 (by decide)
    have hh : X.A.in1.in1.handled = none := I.ok.hd hc
    have D : Draws X.prog X.w X.A.in1 it [it, a] i (fun _ _ => True) (fun j h => j = i ∧ h.IsTupleIter it a j ∧ h.IsTuple a its.toArray) := {
      live := fun _ _ st => let ⟨o, ho, _⟩ := st.2.1; ⟨o, ho⟩
      frame := fun _ _ _ st hk => ⟨st.1, st.2.1.at fun o e => hk it (by simp) o e, st.2.2.at fun o e => hk a (by simp) o e⟩
      item := fun j s Q E hi st _ => absurd st.1 (by omega)
      done := fun s Q E st hE => wpAny_nextOf_tuple_end (I.ok.hd hc) st.2.1 st.2.2 (by simp; omega) hE }
    exact wpAny_pyNext_enum_endD D he ⟨rfl, hit, p⟩ fun h' eb => ⟨rfl, I.turned (t' := s.toks) (fun b o hb q => eb b o hb q) f0 f1 f3 f4 f5⟩
  self := fun A i s Q E st h => let ⟨⟨_, he⟩, _⟩ := st; wpAny_pyIter_enum he h
def iEnumA (K : PySem.W.Frag) (ta : TA) : TI := fun σ H R => ta σ H fun vs H1 => ∃ a, vs = [.ref a] ∧ ((∃ xs, SqL K H1 a xs ∧ R (Ite K a) H1) ∨ ∃ xs, SqT K H1 a xs ∧ R (IteT K a) H1)
theorem pi_enumA {X : Cx} {e : Expr} {ta : TA} {p pos tpos : Pos} {elts : List Expr} {kk : Nat} (hg : Gl X "enumerate") (hm : X.mg "enumerate" = none) (ha : PA X [e] ta) (hs : starEach [e] X.env = [(false, eval e X.env)] := by rfl) :
    PI X (.Tuple elts kk tpos) (.Call (.Name "enumerate" p) [e] [] pos) (iEnumA X.K ta) := by
  refine ⟨fun pins s σ H R I h => ?_⟩
  refine Call_ (ld_blt I hg hm boot_enumerate (PyProof.Rows.callWith_type1 (thn (ha.run pos pins s σ H _ I h) fun us s1 ⟨vs, H1, I1, r1, q1⟩ => ?_) hs rfl))
  obtain ⟨a, ex, q⟩ := q1
  subst ex
  cases r1 with
  | cons r rr =>
    cases rr
    cases r
    have fp : ∀ b ∈ [s1.heap.objs.size + 1, s1.heap.objs.size], FpOk X pins H1 b := fun b hb => by
      have e' : b = s1.heap.objs.size + 1 ∨ b = s1.heap.objs.size := by simpa using hb
      have hle : s1.heap.objs.size ≤ b := by
        rcases e' with z | z
        · rw [z]; exact Nat.le_add_right _ _
        · rw [z]; exact Nat.le_refl _
      exact I1.fpOk hle (I1.hok.fresh hle)
    rcases q with ⟨xs, hq, q⟩ | ⟨xs, hq, q⟩
    · obtain ⟨its, rv, p', hz⟩ := I1.list hq
      refine call_enumerate_list p'.isList fun h' he hit hsz hk => wpAny_pyIter_enum he ?_
      have I2 : Inv X pins σ H1 { s1 with heap := h' } := I1.kept (t' := s1.toks) hk
      exact ⟨s1.heap.objs.size + 1, [s1.heap.objs.size + 1, s1.heap.objs.size], _, _, H1, rfl, I2, turn_enum a (s1.heap.objs.size + 1) s1.heap.objs.size, ⟨⟨.none, he⟩, hit, Nat.succ_ne_self _⟩, fp, q⟩
    · obtain ⟨its, rv, p', hz⟩ := I1.tuple hq
      refine enum_begins1 (begins_tuple a its.toArray) p' fun h' he hit hsz hk => wpAny_pyIter_enum he ?_
      have I2 : Inv X pins σ H1 { s1 with heap := h' } := I1.kept (t' := s1.toks) hk
      exact ⟨s1.heap.objs.size + 1, [s1.heap.objs.size + 1, s1.heap.objs.size], _, _, H1, rfl, I2, turn_enumT a (s1.heap.objs.size + 1) s1.heap.objs.size, ⟨⟨.none, he⟩, ⟨_, hit, rfl, rfl⟩, Nat.succ_ne_self _⟩, fp, q⟩
/-! ### over data -/
def srcE (ds : List D) (lv : OH → Prop) : Src := ⟨ds.length, fun i => ds[i]?.map fun d => .tup [.v (.int (i : Nat)), d], lv⟩
def hEnum (t : TAh) : TIh := fun σ A R => t σ A fun ds A1 => match ds with
  | [.tup es] => R (srcE es fun _ => True) A1
  | [.ptr k] => ∃ es, A1[k]? = some (.lst es) ∧ R (srcE es fun A => A[k]? = some (.lst es)) A1
  | [.scr ns] => R (srcE (ns.map fun n => .v (.int n)) fun _ => True) A1
  | _ => False
section
variable {K : PySem.W.Frag}
theorem new_pair {θ : List Addr} {H : Hp} {A : OH} {T : Addr} {x y : V} {d e : D} (ra : RA K θ H A) (hp : H T = none) (rx : RD K θ H x d) (ry : RD K θ H y e) : Ext θ H θ (upd H T (.tup [x, y])) ∧ RA K θ (upd H T (.tup [x, y])) A ∧ RD K θ (upd H T (.tup [x, y])) (.ref T) (.tup [d, e]) :=
  ⟨.new0 hp, ra.new0 hp, .tup (SqT.of upd_same) ((RDs.cons rx (.cons ry .nil)).stab0 (stab_new hp))⟩
theorem rj_enumT {θ0 : List Addr} {H0 : Hp} {a : Addr} {xs : List V} {ds : List D} (hs : SqT K H0 a xs) (r : RDs K θ0 H0 xs ds) : RJ K θ0 H0 (IteT K a) (srcE ds fun _ => True) := fun θ H A i e ra _ => by
  have hs' := SqT.stab hs e.stab
  have r' := r.ext e
  refine ⟨fun hi => ⟨⟨xs, xs[i]'(by rw [r.length]; exact hi), hs', List.getElem?_eq_getElem _⟩, fun v H' y => ?_⟩, fun hi => ⟨xs, hs', by rw [r.length]; exact hi⟩⟩
  obtain ⟨T, x, rfl, hT, rfl, hx⟩ := y
  obtain ⟨d, h1, h2⟩ := r'.get' (hx xs hs')
  obtain ⟨p1, p2, p3⟩ := new_pair ra hT (.v (.int (i : Nat))) h2
  exact ⟨_, by show (ds[i]?).map _ = _; rw [h1]; rfl, p1, p2, p3⟩
theorem rj_enumL {θ0 : List Addr} {H0 : Hp} {a : Addr} {k : Nat} {ds : List D} (hk : θ0[k]? = some a) : RJ K θ0 H0 (Ite K a) (srcE ds fun A => A[k]? = some (.lst ds)) := fun θ H A i e ra (lv : A[k]? = some (.lst ds)) => by
  have hk' : θ[k]? = some a := by
    obtain ⟨t, rfl⟩ := e.pre
    rw [List.getElem?_append_left (List.getElem?_eq_some_iff.mp hk).1]; exact hk
  obtain ⟨xs, g, r⟩ := ra.ok _ _ _ hk' lv
  refine ⟨fun hi => ⟨⟨xs, xs[i]'(by rw [r.length]; exact hi), SqL.of g, List.getElem?_eq_getElem _⟩, fun v H' y => ?_⟩, fun hi => ⟨xs, SqL.of g, by rw [r.length]; exact hi⟩⟩
  obtain ⟨T, x, rfl, hT, rfl, hx⟩ := y
  obtain ⟨d, h1, h2⟩ := r.get' (hx xs (SqL.of g))
  obtain ⟨p1, p2, p3⟩ := new_pair ra hT (.v (.int (i : Nat))) h2
  exact ⟨_, by show (ds[i]?).map _ = _; rw [h1]; rfl, p1, p2, p3⟩
theorem rj_enumF {θ0 : List Addr} {H0 : Hp} {a : Addr} {ns : List Int} (hs : SqF K H0 a (ns.map V.int)) : RJ K θ0 H0 (Ite K a) (srcE (ns.map fun n => .v (.int n)) fun _ => True) := fun θ H A i e ra _ => by
  have hs' := (SqF.stab hs e.stab).l
  refine ⟨fun hi => ⟨⟨ns.map V.int, (ns.map V.int)[i]'(by rw [List.length_map]; simpa [srcE] using hi), hs', List.getElem?_eq_getElem _⟩, fun v H' y => ?_⟩, fun hi => ⟨_, hs', by rw [List.length_map]; simpa [srcE] using hi⟩⟩
  obtain ⟨T, x, rfl, hT, rfl, hx⟩ := y
  have q := hx _ hs'
  rw [List.getElem?_map] at q
  cases h : ns[i]? with
  | none => rw [h] at q; cases q
  | some n =>
    rw [h] at q
    cases q
    obtain ⟨p1, p2, p3⟩ := new_pair (x := .int (i : Nat)) (y := .int n) (d := .v (.int (i : Nat))) (e := .v (.int n)) ra hT (.v _) (.v _)
    exact ⟨_, by show ((ns.map fun n => D.v (.int n))[i]?).map _ = _; rw [List.getElem?_map, h]; rfl, p1, p2, p3⟩
end
section
variable {X : Cx} {e e2 : Expr} {p pos tpos : Pos} {elts : List Expr} {kk : Nat}
theorem pih_enumerate {t : TAh} (hg : Gl X "enumerate") (hm : X.mg "enumerate" = none) (ha : PA X [e] (liftA X.K t)) (hs : starEach [e] X.env = [(false, eval e X.env)] := by rfl) :
    PI X (.Tuple elts kk tpos) (.Call (.Name "enumerate" p) [e] [] pos) (liftI X.K (hEnum t)) :=
  (pi_enumA hg hm ha hs).imp fun σ H R ⟨θ, σh, A, Rh, rs, ra, w, k⟩ => ⟨θ, σh, A, _, rs, ra, w, fun θ1 H1 A1 vs ds e1 ra1 r1 w1 => by
    split at w1
    · obtain ⟨v, rfl, rv⟩ := r1.one
      cases rv with
      | tup hs r => exact ⟨_, rfl, .inr ⟨_, hs, k _ _ _ _ _ e1 ra1 (rj_enumT hs r) w1⟩⟩
    · obtain ⟨es, h0, q⟩ := w1
      obtain ⟨v, rfl, rv⟩ := r1.one
      cases rv with
      | ptr hi =>
        obtain ⟨xs, g, r⟩ := ra1.ok _ _ _ hi h0
        exact ⟨_, rfl, .inl ⟨_, SqL.of g, k _ _ _ _ _ e1 ra1 (rj_enumL hi) q⟩⟩
    · obtain ⟨v, rfl, rv⟩ := r1.one
      cases rv with
      | scr hs => exact ⟨_, rfl, .inl ⟨_, hs.l, k _ _ _ _ _ e1 ra1 (rj_enumF hs) w1⟩⟩
    · exact w1.elim⟩
/-! ### zip -/
def srcZ (ds es : List D) (lv : OH → Prop) : Src := ⟨min ds.length es.length, fun i => match ds[i]?, es[i]? with | some d, some e => some (.tup [d, e]) | _, _ => none, lv⟩
def hZip (t : TAh) : TIh := fun σ A R => t σ A fun ds A1 => match ds with
  | [.tup ds, .tup es] => R (srcZ ds es fun _ => True) A1
  | [.ptr k, .ptr l] => ∃ ds es, A1[k]? = some (.lst ds) ∧ A1[l]? = some (.lst es) ∧ R (srcZ ds es fun A => A[k]? = some (.lst ds) ∧ A[l]? = some (.lst es)) A1
  | _ => False
theorem rj_zipT {K : PySem.W.Frag} {θ0 : List Addr} {H0 : Hp} {a b : Addr} {xs ys : List V} {ds es : List D} (hs : SqT K H0 a xs) (hs2 : SqT K H0 b ys) (r : RDs K θ0 H0 xs ds) (r2 : RDs K θ0 H0 ys es) : RJ K θ0 H0 (RZ.ItzT K a b) (srcZ ds es fun _ => True) := fun θ H A i e ra _ => by
  have hs' := SqT.stab hs e.stab
  have hs2' := SqT.stab hs2 e.stab
  have r' := r.ext e
  have r2' := r2.ext e
  have l1 := r.length
  have l2 := r2.length
  refine ⟨fun hi => ?_, fun hi => ⟨xs, ys, hs', hs2', ?_⟩⟩
  · have hi' : i < min ds.length es.length := hi
    refine ⟨⟨xs, ys, xs[i]'(by omega), ys[i]'(by omega), hs', hs2', List.getElem?_eq_getElem _, List.getElem?_eq_getElem _⟩, fun v H' y => ?_⟩
    obtain ⟨T, x, y, rfl, hT, rfl, hx, hy⟩ := y
    obtain ⟨d, h1, h2⟩ := r'.get' (hx xs hs')
    obtain ⟨d2, g1, g2⟩ := r2'.get' (hy ys hs2')
    obtain ⟨p1, p2, p3⟩ := new_pair ra hT h2 g2
    exact ⟨_, by show (match ds[i]?, es[i]? with | some d, some e => some (D.tup [d, e]) | _, _ => none) = _; rw [h1, g1], p1, p2, p3⟩
  · have hi' : min ds.length es.length ≤ i := hi
    omega
theorem rj_zipL {K : PySem.W.Frag} {θ0 : List Addr} {H0 : Hp} {a b : Addr} {k l : Nat} {ds es : List D} (hk : θ0[k]? = some a) (hl : θ0[l]? = some b) : RJ K θ0 H0 (Itz K a b) (srcZ ds es fun A => A[k]? = some (.lst ds) ∧ A[l]? = some (.lst es)) := fun θ H A i e ra (lv : A[k]? = some (.lst ds) ∧ A[l]? = some (.lst es)) => by
  obtain ⟨t, rfl⟩ := e.pre
  have hk' : (θ0 ++ t)[k]? = some a := by rw [List.getElem?_append_left (List.getElem?_eq_some_iff.mp hk).1]; exact hk
  have hl' : (θ0 ++ t)[l]? = some b := by rw [List.getElem?_append_left (List.getElem?_eq_some_iff.mp hl).1]; exact hl
  obtain ⟨xs, g, r⟩ := ra.ok _ _ _ hk' lv.1
  obtain ⟨ys, g', r2⟩ := ra.ok _ _ _ hl' lv.2
  have l1 := r.length
  have l2 := r2.length
  refine ⟨fun hi => ?_, fun hi => ⟨xs, ys, SqL.of g, SqL.of g', ?_⟩⟩
  · have hi' : i < min ds.length es.length := hi
    refine ⟨⟨xs, ys, xs[i]'(by omega), ys[i]'(by omega), SqL.of g, SqL.of g', List.getElem?_eq_getElem _, List.getElem?_eq_getElem _⟩, fun v H' y => ?_⟩
    obtain ⟨T, x, y, rfl, hT, rfl, hx, hy⟩ := y
    obtain ⟨d, h1, h2⟩ := r.get' (hx xs (SqL.of g))
    obtain ⟨d2, g1, g2⟩ := r2.get' (hy ys (SqL.of g'))
    obtain ⟨p1, p2, p3⟩ := new_pair ra hT h2 g2
    exact ⟨_, by show (match ds[i]?, es[i]? with | some d, some e => some (D.tup [d, e]) | _, _ => none) = _; rw [h1, g1], p1, p2, p3⟩
  · have hi' : min ds.length es.length ≤ i := hi
    omega
theorem pih_zip {t : TAh} (hg : Gl X "zip") (hm : X.mg "zip" = none) (ha : PA X [e, e2] (liftA X.K t))
    (hs : starEach [e, e2] X.env = (false, eval e X.env) :: starEach [e2] X.env := by rfl) (hpl : (backTo pos (starEach [e2] X.env)).any (·.1) = false := by rfl) :
    PI X (.Tuple elts kk tpos) (.Call (.Name "zip" p) [e, e2] [] pos) (liftI X.K (hZip t)) :=
  (RZ.pi_zipA hg hm ha hs hpl).imp fun σ H R ⟨θ, σh, A, Rh, rs, ra, w, k⟩ => ⟨θ, σh, A, _, rs, ra, w, fun θ1 H1 A1 vs ds e1 ra1 r1 w1 => by
    split at w1
    · obtain ⟨x, y, rfl, rx, ry⟩ := r1.two
      cases rx with
      | tup hs r =>
        cases ry with
        | tup hs2 r2 => exact ⟨_, _, _, _, rfl, .inr ⟨hs, hs2, k _ _ _ _ _ e1 ra1 (rj_zipT hs hs2 r r2) w1⟩⟩
    · obtain ⟨ds, es, h0, h1, q⟩ := w1
      obtain ⟨x, y, rfl, rx, ry⟩ := r1.two
      cases rx with
      | ptr hi =>
        cases ry with
        | ptr hj =>
          obtain ⟨xs, g, r⟩ := ra1.ok _ _ _ hi h0
          obtain ⟨ys, g', r'⟩ := ra1.ok _ _ _ hj h1
          exact ⟨_, _, _, _, rfl, .inl ⟨SqL.of g, SqL.of g', k _ _ _ _ _ e1 ra1 (rj_zipL hi hj) q⟩⟩
    · exact w1.elim⟩
end
end Rp

/-! == by an own __eq__, over data: what it makes on the way is new. -/
namespace Rp
open PySem PySem.Spec PyProof.Rows L2
/-- what the written part says of a class with an own == -/
structure EqK (K : PySem.W.Frag) (C fE : Addr) : Prop where
  eq : PySem.W.findIn K (.ref C) "__eq__" = some (some (.ref fE))
  eqf : PySem.W.isFn K (.ref fE) = true
/-- x == y, x an instance with an own ==, y of a kind that isn't asked first -/
def rEqO (K : PySem.W.Frag) (C : Addr) (sp : Sp) : R2 := fun x y H Q => ∃ a dx fs t, x = .ref a ∧ H a = some (.ins C dx fs) ∧ TyX K H y t ∧ PySem.W.notFirst K C t = true ∧ sp [.ref a, y] H (fun v H' => ∃ b, v = .bl b ∧ Q (.bl b) H') (fun _ _ _ => False)
section
variable {X : Cx} {C fE : Addr} {fdE : FuncData} {k : Nat} {sp : Sp}
theorem op_eqO (Z : EqK X.K C fE) (FE : FnOk X.prog X.w X.K X.mg X.base CX0 k fE fdE ["self", "other"] sp) (bE : L2.Binds X.K fdE ["self", "other"] []) (hr : Room k X.A) : OpR X (compareOp .Eq) (rEqO X.K C sp) := by
  intro pins s σ H x y v u Q I rx ry h
  obtain ⟨a, dx, fs, t, rfl, ha, ty, nf, hsp⟩ := h
  cases rx
  show wpAny (model X.prog X.w) X.A (richCompare .Eq (.ref a) u) (EP X pins σ Q) X.xe s
  obtain ⟨mA, J, _⟩ := ins_get I.hok ha
  obtain ⟨od, J, _⟩ := J.look
  obtain ⟨Pz, KX, pz, _⟩ := kit_of I ry ty
  obtain ⟨m, hF⟩ := I.fr
  refine PySem.W.cmp_K (op := .Eq) (tb := t) hr.units0 hF I.ok.mod.kin J (KX.ty _ _ I.kIn pz) nf Z.eq Z.eqf ?_
  refine wpAny_call (codeAny_mono (FE.run X.A X.stack s H ⟨[.ref a, u], []⟩ [.ref a, u] [.ref a, y] _ _ hr I.env0 (by
    have := bE s [.ref a, u] I.kIn (by rfl)
    simpa using this) (.cons rfl (.cons ry .nil)) hsp) fun r s' hq => ?_)
  cases r with
  | error e => exact (pass0 (X := X)) pins σ H s e s' I hq
  | ok fl =>
    cases fl with
    | ret w =>
      obtain ⟨z, H', I', rz, b, ez, q⟩ := I.after hq
      subst ez
      cases rz
      exact ⟨.bl b, H', I', rfl, q⟩
    | next => exact False.elim hq
    | brk => exact False.elim hq
    | cont => exact False.elim hq
end
def hEqO (K : PySem.W.Frag) (C : Addr) (sp : Sph) : R2h := fun d e A Q => match d with
  | .ptr i => ∃ fs t, A[i]? = some (.ins C fs) ∧ TyD K A e t ∧ PySem.W.notFirst K C t = true ∧ Ask sp [.ptr i, e] A fun r A' => ∃ b, r = .v (.bl b) ∧ Q (.v (.bl b)) A'
  | _ => False
theorem l_eqO {K : PySem.W.Frag} {C : Addr} {sp : Sph} : LR K (rEqO K C (spOf K 2 sp)) (hEqO K C sp) := by
  intro θ H A x y d e Q Qh rd re ra w k
  unfold hEqO at w
  split at w
  · obtain ⟨fs, t, h0, ty, nf, w⟩ := w
    cases rd with
    | ptr hi =>
      obtain ⟨dx, xs, g, _, rf⟩ := ra.ok _ _ _ hi h0
      exact ⟨_, dx, xs, t, rfl, g, ty.ty ra re, nf, rfl, θ, _, A, _, .cons (.ptr hi) (.cons re .nil), ra, w.h, fun θ' H' A' v d e' ra' r q => by
        obtain ⟨b, rfl, q⟩ := q
        cases r
        exact ⟨b, rfl, k _ _ _ _ _ e' ra' (.v _) q⟩⟩
  · exact w.elim
theorem notFirst_self {K : PySem.W.Frag} {C : Addr} : PySem.W.notFirst K C (.ref C) = true := by
  unfold PySem.W.notFirst
  simp
end Rp

/-! len by an own __len__, len(range(n)), over data. -/
namespace Rp
open PySem PySem.Spec PyProof.Rows L2
section
variable {X : Cx} {e : Expr} {x1 x2 : Str} {p1 p2 q1 q2 : Pos} {t : TAh}
/-- len(range(n)) -/
def hLenRng (t : TAh) : TEh := fun σ A Q => t σ A fun ds A1 => match ds with
  | [.v (.int n)] => (0 ≤ n ∧ n < 2 ^ 62) ∧ Q (.v (.int n)) A1
  | _ => False
theorem ph_lenRng (hg : Gl X "len") (hm : X.mg "len" = none) (hg2 : Gl X "range") (hm2 : X.mg "range" = none) (ha : PA X [e] (liftA X.K t)) (he : starEach [e] X.env = (false, eval e X.env) :: starEach [] X.env := by rfl)
    (he2 : starEach [Expr.Call (.Name "range" p2) [e] [] q2] X.env = (false, eval (.Call (.Name "range" p2) [e] [] q2) X.env) :: starEach [] X.env := by rfl)
    : PE X (.Call (.Name "len" p1) [.Call (.Name "range" p2) [e] [] q2] [] q1) (lift X.K (hLenRng t)) :=
  (pe_callB call_lenRng hg hm PySem.boot_len (pa_cons (pe_callTy call_range1 hg2 hm2 PyProof.Rows.boot_range ha (by decide) (by decide) he (by rfl)) pa_nil he2) (by decide) (by decide) he2 (by rfl)).imp fun σ H Q ⟨θ, σh, A, Qh, rs, ra, w, k⟩ => ⟨θ, σh, A, _, rs, ra, w, fun θ1 H1 A1 vs ds e1 ra1 r1 w1 => by
    split at w1
    · rename_i n
      rw [r1.ints1]
      refine ⟨n, rfl, fun p hp => ?_⟩
      obtain ⟨m, rfl⟩ := Int.eq_ofNat_of_zero_le w1.1.1
      refine ⟨p, m, rfl, upd_same, by have := w1.1.2; omega, ?_⟩
      exact k _ _ _ _ _ (e1.trans (.new0 hp)) (ra1.new0 hp) (.v _) w1.2
    · exact w1.elim⟩
end
/-! ### len(x), x's own __len__ -/
def hLenI (C : Addr) (sp : Sph) : List D → OH → KH → Prop
  | [.ptr i], A, Q => ∃ fs, A[i]? = some (.ins C fs) ∧ Ask sp [.ptr i] A fun r A' => ∃ n : Nat, r = .v (.int n) ∧ n < 2 ^ 62 ∧ Q (.v (.int n)) A'
  | _, _, _ => False
theorem l_lenI {K : PySem.W.Frag} {C : Addr} {sp : Sph} : LC K (rLenI C (spOf K 1 sp) fun _ _ _ => False) (hLenI C sp) := by
  intro θ H A xs ds Q Qh r ra w k
  unfold hLenI at w
  split at w
  · obtain ⟨fs, h0, w⟩ := w
    obtain ⟨x, rfl, rx⟩ := r.one
    cases rx with
    | ptr hi =>
      obtain ⟨dx, xs, g, _, rf⟩ := ra.ok _ _ _ hi h0
      refine ⟨_, dx, xs, rfl, g, rfl, θ, _, A, _, .cons (.ptr hi) .nil, ra, w.h, fun θ' H' A' v d e' ra' r q => ?_⟩
      obtain ⟨n, rfl, hn, q⟩ := q
      cases r
      exact ⟨n, rfl, hn, k _ _ _ _ _ e' ra' (.v _) q⟩
  · exact w.elim
end Rp

/-! A tuple by a number, over data. -/
namespace Rp
open PySem PySem.Spec PyProof.Rows L2
def hRepT : R2h
  | .tup ds, .v (.int k), A, Q => (ds ≠ [] ∧ 2 ≤ k ∧ k ≤ 1000 ∧ ds.length ≤ 1000) ∧ Q (.tup (List.replicate k.toNat ds).flatten) A
  | _, _, _, _ => False
theorem l_repT {K : PySem.W.Frag} : LR K (rRepT K) hRepT := by
  intro θ H A x y d e Q Qh rd re ra w k
  unfold hRepT at w
  split at w
  · obtain ⟨⟨h1, h2, h3, h4⟩, q⟩ := w
    cases re
    cases rd with
    | tup hs r =>
      refine ⟨_, _, _, rfl, rfl, hs, fun z => h1 ?_, h2, h3, by rw [r.length]; exact h4, fun p hp => k.tup ra (r.replicate _) q hp⟩
      rw [z] at r
      cases r
      rfl
  · exact w.elim
end Rp

/-! max(list, default=d) of whole numbers, over data. -/
namespace Rp
open PySem PySem.Spec PyProof.Rows L2
/-- the greatest, d of none -/
def mxd (d : Int) : List Int → Int
  | [] => d
  | y :: ys => ys.foldl max y
theorem reads_ints {h : Heap} : ∀ {ns : List Int} {us : List Value}, Vals (ns.map V.int) us → ReadsAll h us (ns.map PyData.int) []
  | [], _, r => by cases r; exact .nil
  | n :: ns, _, r => by
    cases r with
    | cons r1 rr =>
      obtain ⟨t, rfl⟩ := r1
      exact ReadsAll.cons (as := []) (bs := []) (.int _ _) (reads_ints rr)
theorem keeps_blt {M : Model} {h : Heap} (n : String) : PySem.W.Looks M h (keeperOf (.builtin n)) Keeper.machine := by
  show PySem.W.Looks M h (pure Keeper.machine) _
  exact .now
def tMaxD (K : PySem.W.Frag) (ta tk : TA) : TE := fun σ H Q => ta σ H fun vs H1 => tk σ H1 fun zs H2 => ∃ (a : Addr) (ns : List Int) (d : Int), vs = [.ref a] ∧ zs = [.int d] ∧ SqL K H2 a (ns.map V.int) ∧ Q (.int (mxd d ns)) H2
section
variable {X : Cx} {e : Expr} {p pos : Pos} {kws : List Keyword}
theorem pe_maxD {ta tk : TA} (hc : X.calm = true) (hu : X.A.units + 64 < cLine) (hg : Gl X "max") (hm : X.mg "max" = none) (ha : PA X [e] ta) (hkw : PK X kws tk)
    (hall : (backToKw pos (keywordEach kws X.env)).all (·.1.isSome) = true := by rfl) (hks : (backToKw pos (keywordEach kws X.env)).filterMap (·.1) = [Str.ofString "default"] := by rfl)
    (he : starEach [e] X.env = (false, eval e X.env) :: starEach [] X.env := by rfl)
    (hpl : ((backTo pos (starEach [e] X.env)).any (·.1) || (backToKw pos (keywordEach kws X.env)).any (·.1.isNone)) = false := by rfl) :
    PE X (.Call (.Name "max" p) [e] kws pos) (tMaxD X.K ta tk) := by
  refine ⟨fun pins s σ H Q I h => ?_⟩
  refine wpAny_Call_Name_kw (ld_blt I hg hm (show bootBuiltins "max" = some (.builtin "max") by decide +kernel) ?_)
  refine PySem.W.callWith_of (P := fun _ => True) hpl (fun h _ => ⟨_, .inr (.inl rfl), keeps_blt _⟩) (PyProof.Rows.evalArgs_kw2 hall (thn (ha.run pos pins s σ H _ I h) fun us s1 ⟨vs, H1, I1, r1, q1⟩ => ?_) he)
  refine thn (hkw.run pos pins s1 σ H1 _ I1 q1) fun ws s2 ⟨zs, H2, I2, rz, a, ns, d, ev, ez, hq, q⟩ => ⟨True.intro, ?_⟩
  rw [hks]
  subst ev ez
  cases r1 with
  | cons r rr =>
    cases rr
    cases r
    cases rz with
    | cons r2 rr =>
      cases rr
      obtain ⟨tk2, rfl⟩ := r2
      obtain ⟨its, rv, p', hz⟩ := I2.list hq
      have al : PySem.W.AlikeAll (ns.map PyData.int) := by
        refine ⟨fun x hx y hy => ?_, fun x hx => ?_⟩
        · obtain ⟨i, _, rfl⟩ := List.mem_map.mp hx
          obtain ⟨j, _, rfl⟩ := List.mem_map.mp hy
          rfl
        · obtain ⟨i, _, rfl⟩ := List.mem_map.mp hx
          exact fun z => nomatch z
      have dp : PyData.depthAll (ns.map PyData.int) ≤ 0 := (Enc.int (A := [])).all.2.2.1 ns
      refine PySem.W.max_list_default (I2.ok.hd hc) p'.isList (reads_ints rv) al (by omega) (fun e h' tk hk => ?_) fun y ys i v h' tk bs e hi rd hk => ?_
      · have e2 : ns = [] := by cases ns with | nil => rfl | cons a l => cases e
        subst e2
        exact ⟨.int d, H2, I2.kept hk, ⟨_, rfl⟩, q⟩
      · cases ns with
        | nil => cases e
        | cons n ns =>
          injection e with e1 e2
          subst e1 e2
          rw [PySem.W.maxD_ints] at rd
          cases rd
          exact ⟨.int (ns.foldl max n), H2, I2.kept hk, ⟨_, rfl⟩, q⟩
end
def hMaxD (t tk : TAh) : TEh := fun σ A Q => t σ A fun ds A1 => tk σ A1 fun es A2 => match ds, es with
  | [.ptr i], [.v (.int d)] => ∃ ns : List Int, A2[i]? = some (.lst (dI ns)) ∧ Q (.v (.int (mxd d ns))) A2
  | _, _ => False
theorem ph_maxD {X : Cx} {e : Expr} {p pos : Pos} {kws : List Keyword} {t tk : TAh} (hc : X.calm = true) (hu : X.A.units + 64 < cLine) (hg : Gl X "max") (hm : X.mg "max" = none) (ha : PA X [e] (liftA X.K t)) (hkw : PK X kws (liftA X.K tk))
    (hall : (backToKw pos (keywordEach kws X.env)).all (·.1.isSome) = true := by rfl) (hks : (backToKw pos (keywordEach kws X.env)).filterMap (·.1) = [Str.ofString "default"] := by rfl)
    (he : starEach [e] X.env = (false, eval e X.env) :: starEach [] X.env := by rfl)
    (hpl : ((backTo pos (starEach [e] X.env)).any (·.1) || (backToKw pos (keywordEach kws X.env)).any (·.1.isNone)) = false := by rfl) :
    PE X (.Call (.Name "max" p) [e] kws pos) (lift X.K (hMaxD t tk)) :=
  (pe_maxD hc hu hg hm ha hkw hall hks he hpl).imp fun σ H Q ⟨θ, σh, A, Qh, rs, ra, w, k⟩ => ⟨θ, σh, A, _, rs, ra, w, fun θ1 H1 A1 vs ds e1 ra1 r1 w1 => ⟨θ1, σh, A1, _, rs.ext e1, ra1, w1, fun θ2 H2 A2 zs es e2 ra2 r2 w2 => by
    split at w2
    · obtain ⟨ns, h0, q⟩ := w2
      obtain ⟨x, rfl, rx⟩ := (r1.ext e2).one
      cases rx with
      | ptr hi =>
        obtain ⟨xs, g, rr⟩ := ra2.ok _ _ _ hi h0
        have ex : xs = ns.map V.int := RDs.of_scal V.int rr
        rw [ex] at g
        exact ⟨_, ns, _, rfl, r2.ints1, SqL.of g, ((k.ext e1).ext e2).here ra2 (.v _) q⟩
    · exact w2.elim⟩⟩
end Rp

/-! The deck of the laws of roads, and what is drawn from it. -/
namespace Rp
open PySem PySem.Spec PyProof.Rows L2
local macro_rules | `(tactic| walk_at "w") => `(tactic| (conv => whnf))
abbrev topS (i : Nat) : Stmt := PySem.Challenge.pw_rateplan_k34_plans_within_bounds.main.body.getD i (.Pass ⟨0, 0, 0, 0⟩)
/-- the built-in names are as they were -/
structure Bi (mg : Str → Option Value) : Prop where
  int : mg "int" = none
  len : mg "len" = none
  range : mg "range" = none
  tuple : mg "tuple" = none
  list : mg "list" = none
  max : mg "max" = none
  min : mg "min" = none
  sum : mg "sum" = none
  isinstance : mg "isinstance" = none
  repr : mg "repr" = none
  str : mg "str" = none
  abs : mg "abs" = none
  enumerate : mg "enumerate" = none
  zip : mg "zip" = none
  bool : mg "bool" = none
/-- the deck at k, its cells at c -/
structure DeckAt (A : OH) (k c : Nat) : Prop where
  deck : ∃ s n, A[k]? = some (.lst [.ptr c, .v (.int s), .v (.int n)])
  cells : ∃ cs, A[c]? = some (.lst (dI cs)) ∧ cs.length ≤ 63
theorem DeckAt.ne {A : OH} {k c : Nat} (d : DeckAt A k c) : k ≠ c := fun e => by
  obtain ⟨s, n, h⟩ := d.deck
  obtain ⟨cs, h', _⟩ := d.cells
  subst e
  rw [h] at h'
  injection h' with h'
  injection h' with h'
  cases cs with
  | nil => cases h'
  | cons a l => injection h' with h1 _; cases h1
theorem DeckAt.new {A A' : OH} {k c i : Nat} {o : O} (d : DeckAt A k c) (n : New A i o A') : DeckAt A' k c :=
  ⟨let ⟨s, m, h⟩ := d.deck; ⟨s, m, n.old h⟩, let ⟨cs, h, l⟩ := d.cells; ⟨cs, n.old h, l⟩⟩
theorem DeckAt.put {A A' : OH} {k c i : Nat} {o : O} (d : DeckAt A k c) (hi : i ∉ [k, c]) (n : Put A i o A') : DeckAt A' k c := by
  simp only [List.mem_cons, List.not_mem_nil, or_false, not_or] at hi
  exact ⟨let ⟨s, m, h⟩ := d.deck; ⟨s, m, n.old (Ne.symm hi.1) h⟩, let ⟨cs, h, l⟩ := d.cells; ⟨cs, n.old (Ne.symm hi.2) h, l⟩⟩
theorem DeckAt.lt {A : OH} {k c : Nat} (d : DeckAt A k c) : ∀ i ∈ [k, c], i < A.length := fun i hi => by
  obtain ⟨s, n, h⟩ := d.deck
  obtain ⟨cs, h', _⟩ := d.cells
  simp only [List.mem_cons, List.not_mem_nil, or_false] at hi
  rcases hi with rfl | rfl
  · exact lt_of_at h
  · exact lt_of_at h'
def spDeck : Sph := fun ds A Q => ∃ ns : List Int, ds = [.scr ns] ∧ ns.length ≤ 63 ∧ ∀ k c A', DeckAt A' k c → Kp [] A A' → Q (.ptr k) A'
def spDraw : Sph := fun ds A Q => ∃ k c w, ds = [.ptr k, .v (.int w)] ∧ DeckAt A k c ∧ 1 ≤ w ∧ w < 1000000 ∧ ∀ d A', 0 ≤ d → d < w → DeckAt A' k c → Kp [k, c] A A' → Q (.v (.int d)) A'
end Rp

/-! The deck of the laws of roads, and what is drawn from it. -/
namespace Rp
open PySem PySem.Spec PyProof.Rows L2
local macro_rules | `(tactic| walk_at "w") => `(tactic| (conv => whnf))
abbrev sDeck : Stmt := topS 4
theorem scDeck : FnScope ["_law_script", "_law_cells", "_law_k", "_law_cell"] ["_law_script"] (defScope sDeck) :=
  ⟨rfl, rfl, rfl, by decide +kernel, rfl, by decide +kernel, by decide +kernel⟩
abbrev sDraw : Stmt := topS 5
theorem scDraw : FnScope ["_law_deck", "_law_many", "_law_cell", "_law_number"] ["_law_deck", "_law_many"] (defScope sDraw) :=
  ⟨rfl, rfl, rfl, by decide +kernel, rfl, by decide +kernel, by decide +kernel⟩
section
variable {P : Program} {w : World} {K : PySem.W.Frag} {mg : Str → Option Value} {base : Heap}
theorem ok_deck {f : Addr} {fd : FuncData} (F : Fun K "_law_opened" "_law_opened" sDeck f fd) (B : Bi mg) : FnG P w K mg base CX0 1 f fd ["_law_script"] (spOf K 1 spDeck) := by
  refine okGH F scDeck fun cdv Ao outer s H E gA hr => have hu := hr.units; ⟨_, pssh_cons (psh_set (i := 1) scDeck.nd rfl (Or.inl rfl) (ph_callTy l_list call_list_of (by rfl) B.list boot_list (pah_cons (ph_slice (ph_var (pv 0)) poh_none (poh_some (ph_c pe_int))) pah_nil)))
    (pssh_one (psh_ret (ph_lst (pah_cons (ph_step (ph_var (pv 1)) (poh_some (ph_neg (ph_c pe_int)))) (pah_cons (ph_op l_add op_addA (ph_callB l_sum (call_sumA rfl) (by rfl) B.sum (by decide +kernel) (pah_cons (ph_lc (own := [("_law_k", 2), ("_law_cell", 3)]) (lg_tup (lg_cons lg_name (lg_cons lg_name lg_nil)) (len_cons goes_name (len_cons goes_name len_nil))) (keeps_tup (keeps_cons (keeps_name (by decide)) (keeps_cons (keeps_name (by decide)) keeps_nil mono_name) mono_name)) rfl scDeck.nd (pih_enumerate (by rfl) B.enumerate (pah_cons (ph_var (pv 1)) pah_nil)) (blkOk_by (own := [("_law_k", 2), ("_law_cell", 3)]) (N := ["_law_script", "_law_cells", "_law_k", "_law_cell"]) (sc := defScope sDeck) (by decide +kernel)) (fun _ _ _ _ _ => pg_tup rfl (pgs_cons (pg_name (i := 2) scDeck.nd rfl (Or.inl rfl)) (pgs_cons (pg_name (i := 3) scDeck.nd rfl (Or.inl rfl)) (pgs_nil)))) (fun _ _ _ _ _ => ptsh_nil) (fun _ _ _ _ _ => ph_op l_mul op_mulA (ph_op l_mod op_mod (ph_var (pv 3)) (ph_c pe_int)) (ph_op l_add op_addA (ph_var (pv 2)) (ph_c pe_int)))) pah_nil)) (ph_op l_mul op_mulA (ph_c pe_int) (ph_callB l_len call_len (by rfl) B.len PySem.boot_len (pah_cons (ph_var (pv 1)) pah_nil)))) (pah_cons (ph_c pe_int) pah_nil)))))), ?_⟩
  rintro ds A Q ⟨ns, rfl, hn, q⟩
  walk_at "w"
  intro k0 A0 n0
  walk_at "w"
  refine ⟨_, n0.get, fun k1 A1 n1 => ?_⟩
  walk_at "w"
  refine ⟨_, n1.get, fun k2 A2 n2 => ?_⟩
  have h1 := n2.old n1.get
  have hl : ((cutI ns none (some 63)).map fun n => D.v (.int n)).length ≤ 63 := by rw [List.length_map]; exact Nat.le_trans (cutI_len _ _ _) hn
  walk_at "w"
  refine ⟨_, h1, fun n acc A' => (∃ ms : List Int, acc = dI ms) ∧ A' = A2, by show List.length _ ≤ 100000; omega, ⟨⟨[], rfl⟩, rfl⟩, ?_, ?_, ?_⟩
  · rintro i acc A' _ ⟨_, rfl⟩
    exact h1
  · rintro n d acc A' hi hd ⟨⟨ms, rfl⟩, rfl⟩
    obtain ⟨z, rfl⟩ : ∃ z : Int, d = .tup [.v (.int (n : Nat)), .v (.int z)] := by
      have hd' : (((cutI ns none (some 63)).map fun n => D.v (.int n))[n]?).map (fun d => D.tup [.v (.int (n : Nat)), d]) = some d := hd
      rw [List.getElem?_map] at hd'
      cases e : (cutI ns none (some 63))[n]? with
      | none => rw [e] at hd'; cases hd'
      | some u => rw [e] at hd'; exact ⟨u, (Option.some.inj hd').symm⟩
    walk_at "w"
    refine .t ?_
    walk_at "w"
    refine ⟨by decide, ?_⟩
    walk_at "w"
    refine ⟨.inl ⟨by omega, by omega⟩, ?_⟩
    exact ⟨⟨ms ++ [z % 1000003 * ((n : Nat) + 1)], by rw [dI_app]; rfl⟩, rfl⟩
  rintro acc A' ⟨⟨ms, rfl⟩, rfl⟩
  intro k3 A3 n3
  walk_at "w"
  refine ⟨ms, n3.get, ?_⟩
  walk_at "w"
  refine ⟨_, n3.old h1, ?_⟩
  walk_at "w"
  refine ⟨.inl ⟨by decide, by decide⟩, ?_⟩
  walk_at "w"
  intro k4 A4 n4
  refine q k4 k2 A4 ⟨⟨_, _, n4.get⟩, ⟨pickG (cutI ns none (some 63)) (-1), ?_, ?_⟩⟩ (((((Kp.of_new n0).new n1).new n2).new n3).new n4)
  · rw [← pickG_dI]; exact n4.old (n3.old n2.get)
  · exact Nat.le_trans (pickG_len _ _) (Nat.le_trans (cutI_len _ _ _) hn)
theorem ok_draw {f : Addr} {fd : FuncData} (F : Fun K "_law_draw" "_law_draw" sDraw f fd) (B : Bi mg) : FnG P w K mg base CX0 1 f fd ["_law_deck", "_law_many"] (spOf K 2 spDraw) := by
  refine okGH F scDraw fun cdv Ao outer s H E gA hr => have hu := hr.units; ⟨_, pssh_cons (psh_asg lg_sub (ph_op l_add op_addA (ph_ix l_ix ix_seq (ph_var (pv 0)) (ph_c pe_int) (fun _ _ => rfl)) (ph_c pe_int)) (pgh_sub (ph_var (pv 0)) (ph_c pe_int)))
    (pssh_cons (psh_set (i := 2) scDraw.nd rfl (Or.inl rfl) (ph_ix l_ix ix_seq (ph_var (pv 0)) (ph_c pe_int) (fun _ _ => rfl)))
    (pssh_cons (psh_if (pth_cmp l_ne (op_neA hu) (ph_ix l_ix ix_seq (ph_var (pv 0)) (ph_c pe_int) (fun _ _ => rfl)) (ph_lst (pah_nil)) (nomark _)) (pssh_cons (psh_set (i := 2) scDraw.nd rfl (Or.inl rfl) (ph_pop (ph_ix l_ix ix_seq (ph_var (pv 0)) (ph_c pe_int) (fun _ _ => rfl))))
      (pssh_one (psh_if (pth_cmp l_ge op_ge (ph_var (pv 2)) (ph_op l_pow op_pow (ph_c pe_int) (ph_c pe_int)) (nomark _)) (pssh_cons (psh_expr (ph_app (ph_ix l_ix ix_seq (ph_var (pv 0)) (ph_c pe_int) (fun _ _ => rfl)) (pah_cons (ph_op l_div op_fdiv (ph_var (pv 2)) (ph_var (pv 1))) pah_nil)))
        (pssh_one (psh_ret (ph_op l_mod op_mod (ph_var (pv 2)) (ph_var (pv 1)))))) (pssh_nil)))) (pssh_nil))
    (pssh_cons (psh_set (i := 3) scDraw.nd rfl (Or.inl rfl) (ph_op l_mod op_mod (ph_op l_mul op_mulA (ph_op l_add op_addA (ph_op l_add op_addA (ph_op l_mod op_mod (ph_var (pv 2)) (ph_c pe_int)) (ph_op l_mul op_mulA (ph_c pe_int) (ph_ix l_ix ix_seq (ph_var (pv 0)) (ph_c pe_int) (fun _ _ => rfl)))) (ph_c pe_int)) (ph_c pe_int)) (ph_c pe_int)))
    (pssh_cons (psh_set (i := 3) scDraw.nd rfl (Or.inl rfl) (ph_op l_mod op_mod (ph_op l_add op_addA (ph_op l_add op_addA (ph_op l_mul op_mulA (ph_var (pv 3)) (ph_var (pv 3))) (ph_op l_mul op_mulA (ph_c pe_int) (ph_ix l_ix ix_seq (ph_var (pv 0)) (ph_c pe_int) (fun _ _ => rfl)))) (ph_c pe_int)) (ph_c pe_int)))
    (pssh_one (psh_ret (ph_op l_mod op_mod (ph_op l_div op_fdiv (ph_op l_mod op_mod (ph_op l_add op_addA (ph_op l_mul op_mulA (ph_var (pv 3)) (ph_var (pv 3))) (ph_op l_mul op_mulA (ph_c pe_int) (ph_var (pv 3)))) (ph_c pe_int)) (ph_c pe_int)) (ph_var (pv 1))))))))), ?_⟩
  rintro ds A Q ⟨k, c, w, rfl, D, hw, hw2, q⟩
  obtain ⟨⟨sd, n, hk⟩, cs, hc, hl⟩ := D
  have ck : c ≠ k := fun e => (DeckAt.ne ⟨⟨sd, n, hk⟩, cs, hc, hl⟩) e.symm
  -- what is left: the number made by mixing
  walk_at "w"
  refine ⟨_, hk, _, rfl, ?_⟩
  walk_at "w"
  refine ⟨_, 2, hk, rfl, fun A1 p1 => ?_⟩
  have hk1 : A1[k]? = some (.lst [.ptr c, .v (.int sd), .v (.int (n + 1))]) := p1.get
  have hc1 := p1.old ck hc
  have kp1 : Kp [k, c] A A1 := fun i o nm h => p1.old (fun z => nm (by rw [z]; exact List.mem_cons_self)) h
  clear p1
  have mixed : ∀ (z : Int) (A2 : OH) (v3 : Option D), A2[k]? = some (.lst [.ptr c, .v (.int sd), .v (.int (n + 1))]) → (∃ cs, A2[c]? = some (.lst (dI cs)) ∧ cs.length ≤ 63) → Kp [k, c] A A2 →
      (hSeq (hAsg (hOp hMod (hOp hMul (hOp hAdd (hOp hAdd (hOp hMod (hVar 2) (hC (.v (.int 2147483629)))) (hOp hMul (hC (.v (.int 65537))) (hOp hIx (hVar 0) (hC (.v (.int 2)))))) (hC (.v (.int 7)))) (hC (.v (.int 48271)))) (hC (.v (.int 2147483647)))) (hgName 3)) (hSeq (hAsg (hOp hMod (hOp hAdd (hOp hAdd (hOp hMul (hVar 3) (hVar 3)) (hOp hMul (hC (.v (.int 69621))) (hOp hIx (hVar 0) (hC (.v (.int 2)))))) (hC (.v (.int 13)))) (hC (.v (.int 2147483587)))) (hgName 3)) (hRet (hOp hMod (hOp hDiv (hOp hMod (hOp hAdd (hOp hMul (hVar 3) (hVar 3)) (hOp hMul (hC (.v (.int 16807))) (hVar 3))) (hC (.v (.int 2147483563)))) (hC (.v (.int 64)))) (hVar 1))))) (endH Q) [some (.ptr k), some (.v (.int w)), some (.v (.int z)), v3] A2 := by
    intro z A2 v3 hk2 hc2 kp2
    walk_at "w"
    refine ⟨by decide, ?_⟩
    walk_at "w"
    refine ⟨_, hk2, _, rfl, ?_⟩
    walk_at "w"
    refine ⟨.inl ⟨by decide, by decide⟩, ?_⟩
    walk_at "w"
    refine ⟨.inr ⟨by decide, by decide⟩, ?_⟩
    walk_at "w"
    refine ⟨by decide, ?_⟩
    generalize (z % 2147483629 + 65537 * (n + 1) + 7) * 48271 = y
    have y0 := Int.emod_nonneg y (show (2147483647 : Int) ≠ 0 by decide)
    have y1 := Int.emod_lt_of_pos y (show (0 : Int) < 2147483647 by decide)
    generalize y % 2147483647 = x at y0 y1 ⊢
    walk_at "w"
    refine ⟨.inl ⟨by omega, by omega⟩, ?_⟩
    walk_at "w"
    refine ⟨_, hk2, _, rfl, ?_⟩
    walk_at "w"
    refine ⟨.inl ⟨by decide, by decide⟩, ?_⟩
    walk_at "w"
    refine ⟨by decide, ?_⟩
    have x0 := Int.emod_nonneg (x * x + 69621 * (n + 1) + 13) (show (2147483587 : Int) ≠ 0 by decide)
    have x1 := Int.emod_lt_of_pos (x * x + 69621 * (n + 1) + 13) (show (0 : Int) < 2147483587 by decide)
    generalize (x * x + 69621 * (n + 1) + 13) % 2147483587 = u at x0 x1 ⊢
    walk_at "w"
    refine ⟨.inl ⟨by omega, by omega⟩, ?_⟩
    walk_at "w"
    refine ⟨.inl ⟨by decide, by decide⟩, ?_⟩
    walk_at "w"
    refine ⟨by decide, ?_⟩
    walk_at "w"
    refine ⟨⟨by decide, by decide⟩, ?_⟩
    walk_at "w"
    refine ⟨by omega, ?_⟩
    exact q _ A2 (Int.emod_nonneg _ (by omega)) (Int.emod_lt_of_pos _ (by omega)) ⟨⟨_, _, hk2⟩, hc2⟩ kp2
  walk_at "w"
  refine ⟨_, hk1, _, rfl, ?_⟩
  walk_at "w"
  refine ⟨_, hk1, _, rfl, ?_⟩
  walk_at "w"
  intro j A2 n2
  walk_at "w"
  refine ⟨_, EqD.ints (ms := []) (n2.old hc1) n2.get, ?_⟩
  walk_at "w"
  refine .n (fun h => ?_) (fun h => ?_)
  · have e : cs = cs.dropLast ++ [cs.getLast h] := (List.dropLast_concat_getLast h).symm
    generalize cs.dropLast = ini at e
    generalize cs.getLast h = z at e
    subst e
    rw [List.length_append, List.length_singleton] at hl
    walk_at "w"
    refine ⟨_, n2.old hk1, _, rfl, ?_⟩
    walk_at "w"
    refine ⟨dI ini, .v (.int z), by rw [n2.old hc1, dI_app]; rfl, fun A3 p3 => ?_⟩
    have hk3 := p3.old (Ne.symm ck) (n2.old hk1)
    have kp3 : Kp [k, c] A A3 := fun i o nm h => p3.old (fun z => nm (by rw [z]; exact List.mem_cons_of_mem _ List.mem_cons_self)) (n2.old (kp1 i o nm h))
    have hc3 := p3.get
    clear p3 n2 hk1 hc1 hk hc
    walk_at "w"
    refine ⟨⟨by decide, by decide, by decide⟩, ?_⟩
    walk_at "w"
    refine .d (fun h => ?_) (fun h => ?_)
    · walk_at "w"
      refine ⟨_, hk3, _, rfl, ?_⟩
      walk_at "w"
      refine ⟨⟨_, hc3⟩, ?_⟩
      walk_at "w"
      refine ⟨⟨by omega, by omega⟩, ?_⟩
      walk_at "w"
      refine ⟨_, hc3, by rw [dI_len]; omega, fun A4 p4 => ?_⟩
      walk_at "w"
      refine ⟨by omega, ?_⟩
      refine q _ A4 (Int.emod_nonneg _ (by omega)) (Int.emod_lt_of_pos _ (by omega)) ⟨⟨_, _, p4.old (Ne.symm ck) hk3⟩, ini ++ [z / w], ?_, ?_⟩ fun i o nm h => p4.old (fun z => nm (by rw [z]; exact List.mem_cons_of_mem _ List.mem_cons_self)) (kp3 i o nm h)
      · rw [p4.get, dI_app]; rfl
      · rw [List.length_append, List.length_singleton]; exact hl
    · exact mixed z A3 none hk3 ⟨ini, hc3, by omega⟩ kp3
  · exact mixed sd A2 none (n2.old hk1) ⟨cs, n2.old hc1, hl⟩ (kp1.new n2)
end
end Rp

/-! The pieces that are drawn, their speeds beat by beat. -/
namespace Rp
open PySem PySem.Spec PyProof.Rows L2
local macro_rules | `(tactic| walk_at "w") => `(tactic| (conv => whnf))
abbrev dPc (p : Nat × Nat) : D := .tup [.v (.int p.1), .v (.int p.2)]
abbrev dP (ps : List (Nat × Nat)) : List D := ps.map dPc
abbrev dN (ns : List Nat) : List D := ns.map fun n : Nat => .v (.int n)
/-- the speeds of pieces, beat by beat -/
def spd (ps : List (Nat × Nat)) : List Nat := ps.flatMap fun p => List.replicate p.1 p.2
structure FineP (ps : List (Nat × Nat)) : Prop where
  most : ps.length ≤ 12
  ok : ∀ p ∈ ps, 1 ≤ p.1 ∧ p.1 ≤ 50 ∧ p.2 ≤ 1000
  last : ∃ r p, ps = r ++ [p] ∧ 1 ≤ p.2
theorem dP_app (a b : List (Nat × Nat)) : dP (a ++ b) = dP a ++ dP b := List.map_append
theorem dN_app (a b : List Nat) : dN (a ++ b) = dN a ++ dN b := List.map_append
theorem dN_len (a : List Nat) : (dN a).length = a.length := List.length_map _
theorem dP_len (a : List (Nat × Nat)) : (dP a).length = a.length := List.length_map _
theorem dP_at {ps : List (Nat × Nat)} {i : Nat} {d : D} (h : (dP ps)[i]? = some d) : ∃ p, ps[i]? = some p ∧ d = dPc p := by
  rw [List.getElem?_map] at h
  cases e : ps[i]? with
  | none => rw [e] at h; cases h
  | some n => rw [e] at h; exact ⟨n, rfl, (Option.some.inj h).symm⟩
theorem spd_app (a b : List (Nat × Nat)) : spd (a ++ b) = spd a ++ spd b := List.flatMap_append
theorem spd_len {ps : List (Nat × Nat)} {n : Nat} (h : ∀ p ∈ ps, p.1 ≤ 50) (hn : ps.length ≤ n) : (spd ps).length ≤ n * 50 := by
  induction ps generalizing n with
  | nil => exact Nat.zero_le _
  | cons p ps ih =>
    cases n with
    | zero => simp at hn
    | succ n =>
      have := ih (n := n) (fun q hq => h q (List.mem_cons_of_mem _ hq)) (by simpa using hn)
      have := h p List.mem_cons_self
      show (List.replicate p.1 p.2 ++ spd ps).length ≤ _
      rw [List.length_append, List.length_replicate]
      omega
theorem rep_flat {α : Type} (n : Nat) (x : α) : (List.replicate n [x]).flatten = List.replicate n x := by
  induction n with
  | zero => rfl
  | succ n ih => rw [List.replicate_succ, List.flatten_cons, ih, List.replicate_succ]; rfl
/-- two things at places 0, 1; four; five -/
theorem at2 {a b : D} {i : Int} (h0 : 0 ≤ i) (h1 : i < 2) : ∃ d, atI [a, b] i = some d ∧ (d = a ∨ d = b) := by
  have h : i = 0 ∨ i = 1 := by omega
  rcases h with rfl | rfl
  · exact ⟨a, rfl, .inl rfl⟩
  · exact ⟨b, rfl, .inr rfl⟩
theorem at4 {a b c e : D} {i : Int} (h0 : 0 ≤ i) (h1 : i < 4) : ∃ d, atI [a, b, c, e] i = some d ∧ (d = a ∨ d = b ∨ d = c ∨ d = e) := by
  have h : i = 0 ∨ i = 1 ∨ i = 2 ∨ i = 3 := by omega
  rcases h with rfl | rfl | rfl | rfl
  · exact ⟨a, rfl, .inl rfl⟩
  · exact ⟨b, rfl, .inr (.inl rfl)⟩
  · exact ⟨c, rfl, .inr (.inr (.inl rfl))⟩
  · exact ⟨e, rfl, .inr (.inr (.inr rfl))⟩
theorem at5 {a b c e f : D} {i : Int} (h0 : 0 ≤ i) (h1 : i < 5) : ∃ d, atI [a, b, c, e, f] i = some d ∧ (d = a ∨ d = b ∨ d = c ∨ d = e ∨ d = f) := by
  have h : i = 0 ∨ i = 1 ∨ i = 2 ∨ i = 3 ∨ i = 4 := by omega
  rcases h with rfl | rfl | rfl | rfl | rfl
  · exact ⟨a, rfl, .inl rfl⟩
  · exact ⟨b, rfl, .inr (.inl rfl)⟩
  · exact ⟨c, rfl, .inr (.inr (.inl rfl))⟩
  · exact ⟨e, rfl, .inr (.inr (.inr (.inl rfl)))⟩
  · exact ⟨f, rfl, .inr (.inr (.inr (.inr rfl)))⟩
theorem i01 (b : Bool) : (0 : Int) ≤ (if b = true then 1 else 0) ∧ (if b = true then (1 : Int) else 0) < 2 := by cases b <;> exact ⟨by decide, by decide⟩
theorem nat_of {z : Int} {lo hi : Nat} (h : (lo : Int) ≤ z) (h' : z ≤ hi) : ∃ b : Nat, (D.v (.int z)) = .v (.int b) ∧ lo ≤ b ∧ b ≤ hi := ⟨z.toNat, by rw [Int.toNat_of_nonneg (by omega)], by omega, by omega⟩
theorem encPc {A : OH} : Enc A dPc (fun p => .tuple [.int p.1, .int p.2]) 1 := Enc.nat.pair Enc.nat
theorem atI_last' {α : Type} {xs : List α} {v : α} : atI (xs ++ [v]) (-1) = some v := atI_last xs v
end Rp

namespace Rp
open PySem PySem.Spec PyProof.Rows L2
local macro_rules | `(tactic| walk_at "w") => `(tactic| (conv => whnf))
abbrev sPlan : Stmt := topS 6
theorem scPlan : FnScope ["_law_deck", "_law_way", "_law_found", "_law_k", "_law_rate"] ["_law_deck"] (defScope sPlan) :=
  ⟨rfl, rfl, rfl, by decide +kernel, rfl, by decide +kernel, by decide +kernel⟩
abbrev sFits : Stmt := topS 7
theorem scFits : FnScope ["_law_plan_here", "_law_step_most", "_law_many", "_law_changes", "_law_at", "_law_step"] ["_law_plan_here", "_law_step_most", "_law_many"] (defScope sFits) :=
  ⟨rfl, rfl, rfl, by decide +kernel, rfl, by decide +kernel, by decide +kernel⟩
theorem at_mem {xs : List D} {i : Int} (h0 : 0 ≤ i) (h1 : i < xs.length) : ∃ d, atI xs i = some d ∧ d ∈ xs := by
  obtain ⟨n, rfl⟩ := Int.eq_ofNat_of_zero_le h0
  have hn : n < xs.length := by omega
  exact ⟨xs[n], atI_nat (List.getElem?_eq_getElem hn), List.getElem_mem hn⟩
/-- the steps from each rate to the next one -/
def steps (rs : List Nat) : List Nat := (rs.zip (rs.drop 1)).map fun p => max p.1 p.2 - min p.1 p.2
theorem steps_len (rs : List Nat) : (steps rs).length = rs.length - 1 := by
  unfold steps
  rw [List.length_map, List.length_zip, List.length_drop]
  omega
theorem steps_at {rs : List Nat} {i a b : Nat} (h : rs[i]? = some a) (h' : rs[i + 1]? = some b) : (steps rs)[i]? = some (max a b - min a b) := by
  unfold steps
  rw [List.getElem?_map, (List.getElem?_zip_eq_some (z := (a, b))).mpr ⟨h, by rw [List.getElem?_drop, Nat.add_comm]; exact h'⟩]
  rfl
theorem cnt_succ {L : List Nat} {i t : Nat} (h : L[i]? = some t) : (((L.take (i + 1)).filter fun s => decide (0 < s)).length : Int) = ((L.take i).filter fun s => decide (0 < s)).length + if (!decide ((t : Int) = 0)) = true then 1 else 0 := by
  rw [List.take_add_one, h, Option.toList_some, List.filter_append, List.length_append]
  by_cases c : t = 0
  · subst c
    simp
  · have c1 : 0 < t := by omega
    have c2 : ¬ (t : Int) = 0 := by omega
    rw [List.filter_cons, if_pos (by simpa using c1), decide_eq_false c2]
    simp
abbrev dO : Option Nat → D
  | none => .v .non
  | some n => .v (.int (n : Nat))
def fitS (st : List Nat) (so : Option Nat) : Bool := match so with
  | none => true
  | some m => decide (∀ s ∈ st, s ≤ m)
def fitM (st : List Nat) (mo : Option Nat) : Bool := match mo with
  | none => true
  | some m => decide ((st.filter fun s => decide (0 < s)).length ≤ m)
def fitB (rs : List Nat) (so mo : Option Nat) : Bool := fitS (steps rs) so && fitM (steps rs) mo
def spPlan : Sph := fun ds A Q => ∃ k c, ds = [.ptr k] ∧ DeckAt A k c ∧ ∀ (rs : List Nat) A', rs.length ≤ 12 → (∀ r ∈ rs, r ≤ 3) → DeckAt A' k c → Kp [k, c] A A' → Q (.tup (dN rs)) A'
def spFits : Sph := fun ds A Q => ∃ rs so mo, ds = [.tup (dN rs), dO so, dO mo] ∧ rs.length ≤ 12 ∧ Q (.v (.bl (fitB rs so mo))) A
section
variable {P : Program} {w : World} {K : PySem.W.Frag} {mg : Str → Option Value} {base : Heap}
theorem ok_plan {f fD : Addr} {fd fdD : FuncData} (F : Fun K "_law_plan" "_law_plan" sPlan f fd) (B : Bi mg) (FD : Fun K "_law_draw" "_law_draw" sDraw fD fdD) (mD : mg "_law_draw" = some (.ref fD)) (bD : L2.Binds K fdD ["_law_deck", "_law_many"] []) :
    FnG P w K mg base CX0 2 f fd ["_law_deck"] (spOf K 1 spPlan) := by
  have G : FnG P w K mg base CX0 1 fD fdD ["_law_deck", "_law_many"] (spOf K 2 spDraw) := ok_draw FD B
  refine okGH F scPlan fun cdv Ao outer s H E gA hr => have hu := hr.units; ⟨_, pssh_cons (psh_set (i := 1) scPlan.nd rfl (Or.inl rfl) (ph_call G gA hr (by rfl) mD FD.kp bD (pah_cons (ph_var (pv 0)) (pah_cons (ph_c pe_int) pah_nil))))
    (pssh_cons (psh_set (i := 2) scPlan.nd rfl (Or.inl rfl) (ph_lst (pah_cons (ph_call G gA hr (by rfl) mD FD.kp bD (pah_cons (ph_var (pv 0)) (pah_cons (ph_c pe_int) pah_nil))) pah_nil)))
    (pssh_cons (psh_for lg_name PassesOwn.never rfl (pih_range1 (by rfl) B.range (pah_cons (ph_call G gA hr (by rfl) mD FD.kp bD (pah_cons (ph_var (pv 0)) (pah_cons (ph_c pe_int) pah_nil))) pah_nil)) (pg_name (i := 3) scPlan.nd rfl (Or.inl rfl)) (pssh_cons (psh_set (i := 4) scPlan.nd rfl (Or.inl rfl) (ph_ix l_ix ix_seq (ph_lst (pah_cons (ph_call G gA hr (by rfl) mD FD.kp bD (pah_cons (ph_var (pv 0)) (pah_cons (ph_c pe_int) pah_nil))) (pah_cons (ph_ix l_ix ix_seq (ph_var (pv 2)) (ph_neg (ph_c pe_int)) (fun _ _ => rfl)) (pah_cons (ph_op l_mod op_mod (ph_op l_add op_addA (ph_ix l_ix ix_seq (ph_var (pv 2)) (ph_neg (ph_c pe_int)) (fun _ _ => rfl)) (ph_c pe_int)) (ph_c pe_int)) (pah_cons (ph_callB l_max (call_maxA rfl) (by rfl) B.max (by decide +kernel) (pah_cons (ph_c pe_int) (pah_cons (ph_op l_sub op_sub (ph_ix l_ix ix_seq (ph_var (pv 2)) (ph_neg (ph_c pe_int)) (fun _ _ => rfl)) (ph_call G gA hr (by rfl) mD FD.kp bD (pah_cons (ph_var (pv 0)) (pah_cons (ph_c pe_int) pah_nil)))) pah_nil))) pah_nil))))) (ph_var (pv 1)) (fun _ _ => rfl)))
      (pssh_one (psh_expr (ph_app (ph_var (pv 2)) (pah_cons (ph_ifExp (pth_cmp l_gt op_gt (ph_call G gA hr (by rfl) mD FD.kp bD (pah_cons (ph_var (pv 0)) (pah_cons (ph_c pe_int) pah_nil))) (ph_c pe_int) (nomark _)) (ph_var (pv 4)) (ph_ix l_ix ix_seq (ph_var (pv 2)) (ph_neg (ph_c pe_int)) (fun _ _ => rfl))) pah_nil))))))
    (pssh_one (psh_ret (ph_callTy l_tuple call_tuple_of (by rfl) B.tuple boot_tuple (pah_cons (ph_var (pv 2)) pah_nil)))))), ?_⟩
  rintro ds A Q ⟨k, c, rfl, D0, q⟩
  walk_at "w"
  refine ⟨k, c, _, rfl, D0, by decide, by decide, fun y A1 y0 y1 D1 kp => ?_⟩
  have L1 := (Loc.nil.kept (N := [k, c]) kp fun _ h => h)
  clear D0 kp
  walk_at "w"
  refine ⟨k, c, _, rfl, D1, by decide, by decide, fun a A2 a0 a1 D2 kp => ?_⟩
  obtain ⟨a, rfl⟩ := Int.eq_ofNat_of_zero_le a0
  have L2 := L1.kept kp fun _ h => h
  clear D1 L1 kp
  walk_at "w"
  intro f A3 n3
  have L3 : Loc [k, c] A [(f, .lst (dN [a]))] A3 := L2.new n3 D2.lt
  have D3 := D2.new n3
  clear D2 L2 n3
  walk_at "w"
  refine ⟨k, c, _, rfl, D3, by decide, by decide, fun m A4 m0 m1 D4 kp => ?_⟩
  have L4 := L3.kept kp fun _ h => h
  clear D3 L3 kp
  walk_at "w"
  refine ⟨⟨by omega, by omega⟩, fun i σ A' => ∃ (v3 v4 : Option D) (r : List Nat) (l : Nat), σ = [some (.ptr k), some (.v (.int y)), some (.ptr f), v3, v4] ∧ DeckAt A' k c ∧ Loc [k, c] A [(f, .lst (dN (r ++ [l])))] A' ∧ r.length ≤ i ∧ ∀ x ∈ r ++ [l], x ≤ 3,
    ⟨none, none, [], a, rfl, D4, L4, Nat.le_refl _, fun x hx => by rw [List.mem_singleton.mp hx]; omega⟩, fun _ _ _ _ _ => trivial, ?_, ?_⟩
  · rintro i d σ A1 hi hd ⟨v3, v4, r, l, rfl, D1, L1, hl, ok⟩
    replace hi : i < m.toNat := hi
    cases Option.some.inj hd
    have hl3 : l ≤ 3 := ok l (List.mem_append_right _ List.mem_cons_self)
    clear D4 L4
    have lastat : atI (dN (r ++ [l])) (-1) = some (.v (.int (l : Nat))) := by rw [dN_app]; exact atI_last'
    walk_at "w"
    refine ⟨k, c, _, rfl, D1, by decide, by decide, fun b A2 b0 b1 D2 kp => ?_⟩
    have L2 := L1.kept kp fun _ h => h
    clear D1 L1 kp
    walk_at "w"
    refine ⟨_, L2.get0, _, lastat, ?_⟩
    walk_at "w"
    refine ⟨_, L2.get0, _, lastat, ?_⟩
    walk_at "w"
    refine ⟨by decide, ?_⟩
    walk_at "w"
    refine ⟨_, L2.get0, _, lastat, ?_⟩
    walk_at "w"
    refine ⟨k, c, _, rfl, D2, by decide, by decide, fun e A3 e0 e1 D3 kp => ?_⟩
    have L3 := L2.kept kp fun _ h => h
    clear D2 L2 kp
    walk_at "w"
    intro j4 A4 n4
    have L4 := L3.new n4 D3.lt
    walk_at "w"
    obtain ⟨z, hz, mem⟩ := at_mem (xs := [.v (.int b), .v (.int (l : Nat)), .v (.int (((l : Nat) + 1 : Int) % 4)), .v (.int (max 0 ((l : Nat) - e)))]) y0 y1
    refine ⟨_, L4.get0, z, hz, ?_⟩
    obtain ⟨ra, rfl, _, hra⟩ : ∃ b : Nat, z = .v (.int b) ∧ 0 ≤ b ∧ b ≤ 3 := by
      simp only [List.mem_cons, List.not_mem_nil, or_false] at mem
      rcases mem with rfl | rfl | rfl | rfl
      · exact nat_of (by omega) (by omega)
      · exact ⟨l, rfl, Nat.zero_le _, hl3⟩
      · exact nat_of (by omega) (by omega)
      · exact nat_of (by omega) (by omega)
    have L4 := L4.drop
    have D4 := D3.new n4
    clear hz mem D3 L3 n4
    walk_at "w"
    refine ⟨⟨_, L4.get0⟩, ?_⟩
    walk_at "w"
    refine ⟨k, c, _, rfl, D4, by decide, by decide, fun u A5 u0 u1 D5 kp => ?_⟩
    have L5 := L4.kept kp fun _ h => h
    clear D4 L4 kp
    have app : ∀ (x : Nat), x ≤ 3 → ∀ A6, Put A5 f (.lst (dN (r ++ [l]) ++ [.v (.int (x : Nat))])) A6 → DeckAt A6 k c ∧ Loc [k, c] A [(f, .lst (dN (r ++ [l] ++ [x])))] A6 := fun x hx A6 p6 => by
      refine ⟨D5.put (L5.out (i := 0) rfl) p6, ?_⟩
      rw [dN_app (r ++ [l])]
      exact L5.put0 p6
    walk_at "w"
    refine .d (fun _ => ?_) (fun _ => ?_)
    · walk_at "w"
      refine ⟨_, L5.get0, by rw [dN_len, List.length_append, List.length_singleton]; omega, fun A6 p6 => ?_⟩
      obtain ⟨D6, L6⟩ := app ra hra A6 p6
      refine ⟨_, _, r ++ [l], ra, rfl, D6, L6, by rw [List.length_append, List.length_singleton]; omega, fun x hx => ?_⟩
      rcases List.mem_append.mp hx with h | h
      · exact ok x h
      · rw [List.mem_singleton.mp h]; exact hra
    · walk_at "w"
      refine ⟨_, L5.get0, _, lastat, ?_⟩
      walk_at "w"
      refine ⟨_, L5.get0, by rw [dN_len, List.length_append, List.length_singleton]; omega, fun A6 p6 => ?_⟩
      obtain ⟨D6, L6⟩ := app l hl3 A6 p6
      refine ⟨_, _, r ++ [l], l, rfl, D6, L6, by rw [List.length_append, List.length_singleton]; omega, fun x hx => ?_⟩
      rcases List.mem_append.mp hx with h | h
      · exact ok x h
      · rw [List.mem_singleton.mp h]; exact hl3
  · rintro σ A1 ⟨v3, v4, r, l, rfl, D1, L1, hl, ok⟩
    replace hl : r.length ≤ m.toNat := hl
    walk_at "w"
    refine ⟨_, L1.get0, ?_⟩
    exact q _ A1 (by rw [List.length_append, List.length_singleton]; omega) ok D1 L1.kp
theorem ok_fits {f : Addr} {fd : FuncData} (F : Fun K "_law_fits" "_law_fits" sFits f fd) (B : Bi mg) : FnG P w K mg base CX0 1 f fd ["_law_plan_here", "_law_step_most", "_law_many"] (spOf K 3 spFits) := by
  refine okGH F scFits fun cdv Ao outer s H E gA hr => have hu := hr.units; ⟨_, pssh_cons (psh_set (i := 3) scFits.nd rfl (Or.inl rfl) (ph_c pe_int))
    (pssh_cons (psh_for lg_name PassesOwn.never rfl (pih_range2 (by rfl) B.range (pah_cons (ph_c pe_int) (pah_cons (ph_callB l_len call_len (by rfl) B.len PySem.boot_len (pah_cons (ph_var (pv 0)) pah_nil)) pah_nil))) (pg_name (i := 4) scFits.nd rfl (Or.inl rfl)) (pssh_cons (psh_set (i := 5) scFits.nd rfl (Or.inl rfl) (ph_op l_sub op_sub (ph_callB l_max (call_maxA rfl) (by rfl) B.max (by decide +kernel) (pah_cons (ph_ix l_ix ix_seq (ph_var (pv 0)) (ph_var (pv 4)) (fun _ _ => rfl)) (pah_cons (ph_ix l_ix ix_seq (ph_var (pv 0)) (ph_op l_sub op_sub (ph_var (pv 4)) (ph_c pe_int)) (fun _ _ => rfl)) pah_nil))) (ph_callB l_min (call_minA rfl) (by rfl) B.min (by decide +kernel) (pah_cons (ph_ix l_ix ix_seq (ph_var (pv 0)) (ph_var (pv 4)) (fun _ _ => rfl)) (pah_cons (ph_ix l_ix ix_seq (ph_var (pv 0)) (ph_op l_sub op_sub (ph_var (pv 4)) (ph_c pe_int)) (fun _ _ => rfl)) pah_nil)))))
      (pssh_cons (psh_set (i := 3) scFits.nd rfl (Or.inl rfl) (ph_op l_add op_addA (ph_var (pv 3)) (ph_callTy l_int call_int1 (by rfl) B.int boot_int (pah_cons (ph_cmp l_ne (op_neA hu) (ph_var (pv 5)) (ph_c pe_int) (nomark _)) pah_nil))))
      (pssh_one (psh_if (PW.pt (pwh_and (pth_cmp l_notN op_notN (ph_var (pv 1)) (ph_c pe_non) (nomark _)) (pwh_and1 (pth_cmp l_gt op_gt (ph_var (pv 5)) (ph_var (pv 1)) (nomark _))))) (pssh_one (psh_ret (ph_c pe_bl))) (pssh_nil))))))
    (pssh_one (psh_ret (ph_or (ph_cmp l_isN op_isN (ph_var (pv 2)) (ph_c pe_non) (nomark _)) (ph_one (ph_cmp l_le op_le (ph_var (pv 3)) (ph_var (pv 2)) (nomark _))))))), ?_⟩
  rintro ds A Q ⟨rs, so, mo, rfl, hl, q⟩
  walk_at "w"
  rw [dN_len]
  refine ⟨⟨by decide, by decide, by omega, by omega⟩, fun i σ A' => ∃ (ch : Int) (v4 v5 : Option D), σ = [some (.tup (dN rs)), some (dO so), some (dO mo), some (.v (.int ch)), v4, v5] ∧ A' = A ∧ ch = (((steps rs).take i).filter fun s => decide (0 < s)).length ∧ (∀ m, so = some m → ∀ s ∈ (steps rs).take i, s ≤ m),
    ⟨_, _, _, rfl, rfl, rfl, fun _ _ _ z => nomatch z⟩, fun _ _ _ _ _ => trivial, ?_, ?_⟩
  · rintro i d σ A1 hi hd ⟨ch, v4, v5, rfl, rfl, hch, hst⟩
    replace hi : i < (((rs.length : Nat) : Int) - 1).toNat := hi
    cases Option.some.inj hd
    have ha : rs[i]? = some rs[i] := List.getElem?_eq_getElem (by omega)
    have hb : rs[i + 1]? = some rs[i + 1] := List.getElem?_eq_getElem (by omega)
    generalize rs[i] = a at ha
    generalize rs[i + 1] = b at hb
    have hs := steps_at ha hb
    have ea : atI (dN rs) ((1 : Int) + (i : Int) - 1) = some (.v (.int (a : Nat))) := by
      rw [show (1 : Int) + (i : Int) - 1 = ((i : Nat) : Int) by omega]
      exact atI_nat (by rw [List.getElem?_map, ha]; rfl)
    have eb : atI (dN rs) ((1 : Int) + (i : Int)) = some (.v (.int (b : Nat))) := by
      rw [show (1 : Int) + (i : Int) = ((i + 1 : Nat) : Int) by omega]
      exact atI_nat (by rw [List.getElem?_map, hb]; rfl)
    walk_at "w"
    refine ⟨_, eb, ?_⟩
    walk_at "w"
    refine ⟨_, ea, ?_⟩
    walk_at "w"
    refine ⟨_, eb, ?_⟩
    walk_at "w"
    refine ⟨_, ea, ?_⟩
    obtain ⟨t, ht, ht2⟩ : ∃ t : Nat, max (b : Int) (a : Int) - min (b : Int) (a : Int) = t ∧ t = max a b - min a b := ⟨max a b - min a b, by omega, rfl⟩
    rw [← ht2] at hs
    have hcn := cnt_succ hs
    have mem : t ∈ steps rs := List.mem_of_getElem? hs
    cases so with
    | none =>
      walk_at "w"
      rw [ht]
      refine .f ?_
      refine .f ?_
      refine ⟨_, _, _, rfl, rfl, by rw [hcn, hch], fun _ z => nomatch z⟩
    | some m =>
      walk_at "w"
      rw [ht]
      refine .t ?_
      walk_at "w"
      refine .d (fun c => ?_) (fun c => ?_)
      · have e : fitB rs (some m) mo = false := by
          unfold fitB fitS
          have : decide (∀ s ∈ steps rs, s ≤ m) = false := decide_eq_false fun z => by have := z t mem; omega
          simp only [this, Bool.false_and]
        rw [e] at q
        exact q
      · refine ⟨_, _, _, rfl, rfl, by rw [hcn, hch], fun m' e s hs' => ?_⟩
        cases e
        rw [List.take_add_one, hs] at hs'
        rcases List.mem_append.mp hs' with h | h
        · exact hst m rfl s h
        · rw [List.mem_singleton.mp h]; omega
  · rintro σ A1 ⟨ch, v4, v5, rfl, rfl, hch, hst⟩
    have et : (steps rs).take (srcR 1 (((rs.length : Nat) : Int) - 1).toNat).n = steps rs := by
      refine List.take_of_length_le ?_
      rw [steps_len]
      show _ ≤ (((rs.length : Nat) : Int) - 1).toNat
      omega
    rw [et] at hch hst
    have e1 : fitS (steps rs) so = true := by
      cases so with
      | none => rfl
      | some m => exact decide_eq_true (hst m rfl)
    have e2 : fitB rs so mo = fitM (steps rs) mo := by unfold fitB; rw [e1, Bool.true_and]
    rw [e2] at q
    cases mo with
    | none =>
      walk_at "w"
      refine .t ?_
      exact q
    | some m =>
      walk_at "w"
      refine .f ?_
      walk_at "w"
      have e3 : decide (ch ≤ (m : Int)) = fitM (steps rs) (some m) := by
        show _ = decide _
        rw [hch]
        exact decide_eq_decide.mpr (by omega)
      show Q (.v (.bl (decide (ch ≤ (m : Int))))) _
      rw [e3]
      exact q
end
end Rp

namespace Rp
open PySem PySem.Spec PyProof.Rows L2
local macro_rules | `(tactic| walk_at "w") => `(tactic| (conv => whnf))
abbrev sStepsOf : Stmt := topS 2
theorem scStepsOf : FnScope ["plan", "last", "rate"] ["plan"] (defScope sStepsOf) :=
  ⟨rfl, rfl, rfl, by decide +kernel, rfl, by decide +kernel, by decide +kernel⟩
abbrev sInBounds : Stmt := topS 1
theorem scInBounds : FnScope ["plan", "steps", "switches", "taken", "step"] ["plan", "steps", "switches"] (defScope sInBounds) :=
  ⟨rfl, rfl, rfl, by decide +kernel, rfl, by decide +kernel, by decide +kernel⟩
theorem dN_dI (L : List Nat) : dN L = dI (L.map fun n : Nat => (n : Int)) := by
  show L.map _ = (L.map _).map _
  rw [List.map_map]
  rfl
theorem foldl_max_le (m : Nat) : ∀ (L : List Nat) (a : Nat), ((L.map fun n : Nat => (n : Int)).foldl max (a : Int) ≤ (m : Int)) ↔ (a ≤ m ∧ ∀ s ∈ L, s ≤ m)
  | [], a => by simp
  | b :: L, a => by
    rw [List.map_cons, List.foldl_cons, show max (a : Int) (b : Int) = ((max a b : Nat) : Int) by omega, foldl_max_le m L (max a b)]
    simp only [List.mem_cons, forall_eq_or_imp]
    exact ⟨fun ⟨h, r⟩ => ⟨by omega, by omega, r⟩, fun ⟨h1, h2, r⟩ => ⟨by omega, r⟩⟩
theorem mxd_le (L : List Nat) (m : Nat) : (mxd 0 (L.map fun n : Nat => (n : Int)) ≤ (m : Int)) ↔ ∀ s ∈ L, s ≤ m := by
  cases L with
  | nil => simp [mxd]
  | cons a L =>
    show (L.map fun n : Nat => (n : Int)).foldl max (a : Int) ≤ (m : Int) ↔ _
    rw [foldl_max_le]
    simp
def spStepsOf : Sph := fun ds A Q => ∃ rs, ds = [.tup (dN rs)] ∧ rs.length ≤ 12 ∧ ∀ j A', New A j (.lst (dN (steps rs))) A' → Q (.ptr j) A'
def spInBounds : Sph := fun ds A Q => ∃ rs so mo, ds = [.tup (dN rs), dO so, dO mo] ∧ rs.length ≤ 12 ∧ ∀ A', Kp [] A A' → Q (.v (.bl (fitB rs so mo))) A'
/-- the words of the call -/
theorem ib_none {K : PySem.W.Frag} {f : Addr} {fd : FuncData} (F : FunD K "in_bounds" "in_bounds" (defArgs sInBounds) (defBody sInBounds) (defScope sInBounds) [] [("steps", .non), ("switches", .non)] f fd) :
    ∃ us, Vals [V.non, V.non] us ∧ L2.Binds K fd ["plan", "steps", "switches"] us :=
  FunD.binds0 (ps := ["plan", "steps", "switches"]) F 1 (by simp) rfl fun D doc pm an cdv ct us ks hl hk => by
    match us, hl, ks, hk with
    | [_], _, [_, _], _ => exact ⟨_, _, _, _, _, _, rfl, rfl, ⟨_, _, _, _, _, _, rfl, rfl, rfl⟩⟩
theorem ib_both {K : PySem.W.Frag} {f : Addr} {fd : FuncData} (F : FunD K "in_bounds" "in_bounds" (defArgs sInBounds) (defBody sInBounds) (defScope sInBounds) [] [("steps", .non), ("switches", .non)] f fd) :
    ∃ g, KBn K fd ["plan", "steps", "switches"] 1 ["steps", "switches"] g (fun vs zs => vs ++ zs) := by
  obtain ⟨mv, h⟩ := FunD.kbinds0 (ps := ["plan", "steps", "switches"]) F 1 ["steps", "switches"] [] (fun {α} us mv ws => us ++ ws) (by simp) (fun q hq => nomatch hq) (fun r1 _ r2 => r1.append r2) fun D doc pm an cdv ct us mv ws l1 l2 l3 => by
    match us, l1, ws, l3, mv, l2 with
    | [_], _, [_, _], _, [], _ => exact rfl
  exact ⟨_, h⟩
theorem Vals.rev {vs : List V} : ∀ {us : List Value}, Vals vs us → Vals vs.reverse us.reverse := by
  induction vs with
  | nil => intro us r; cases r; exact .nil
  | cons v vs ih =>
    intro us r
    cases r with
    | cons a t =>
      rw [List.reverse_cons, List.reverse_cons]
      exact (ih t).append (.cons a .nil)
theorem ib_rev {K : PySem.W.Frag} {f : Addr} {fd : FuncData} (F : FunD K "in_bounds" "in_bounds" (defArgs sInBounds) (defBody sInBounds) (defScope sInBounds) [] [("steps", .non), ("switches", .non)] f fd) :
    ∃ g, KBn K fd ["plan", "steps", "switches"] 1 ["switches", "steps"] g (fun vs zs => vs ++ zs.reverse) := by
  obtain ⟨mv, h⟩ := FunD.kbinds0 (ps := ["plan", "steps", "switches"]) F 1 ["switches", "steps"] [] (fun {α} us mv ws => us ++ ws.reverse) (by simp) (fun q hq => nomatch hq) (fun r1 _ r2 => r1.append (Vals.rev r2)) fun D doc pm an cdv ct us mv ws l1 l2 l3 => by
    match us, l1, ws, l3, mv, l2 with
    | [_], _, [_, _], _, [], _ => exact rfl
  exact ⟨_, h⟩
theorem ib_steps {K : PySem.W.Frag} {f : Addr} {fd : FuncData} (F : FunD K "in_bounds" "in_bounds" (defArgs sInBounds) (defBody sInBounds) (defScope sInBounds) [] [("steps", .non), ("switches", .non)] f fd) :
    ∃ g, KBn K fd ["plan", "steps", "switches"] 1 ["steps"] g (fun vs zs => vs ++ zs ++ [.non]) := by
  obtain ⟨mv, h⟩ := FunD.kbinds0 (ps := ["plan", "steps", "switches"]) F 1 ["steps"] [("switches", .non)] (fun {α} us mv ws => us ++ ws ++ mv) (by simp) (fun q hq => by simp at hq; rw [hq]; simp) (fun r1 rm r2 => (r1.append r2).append rm) fun D doc pm an cdv ct us mv ws l1 l2 l3 => by
    match us, l1, ws, l3, mv, l2 with
    | [_], _, [_], _, [_], _ => exact ⟨_, _, _, _, _, _, rfl, rfl, rfl⟩
  exact ⟨_, h⟩
theorem ib_switches {K : PySem.W.Frag} {f : Addr} {fd : FuncData} (F : FunD K "in_bounds" "in_bounds" (defArgs sInBounds) (defBody sInBounds) (defScope sInBounds) [] [("steps", .non), ("switches", .non)] f fd) :
    ∃ g, KBn K fd ["plan", "steps", "switches"] 1 ["switches"] g (fun vs zs => vs ++ [.non] ++ zs) := by
  obtain ⟨mv, h⟩ := FunD.kbinds0 (ps := ["plan", "steps", "switches"]) F 1 ["switches"] [("steps", .non)] (fun {α} us mv ws => us ++ mv ++ ws) (by simp) (fun q hq => by simp at hq; rw [hq]; simp) (fun r1 rm r2 => (r1.append rm).append r2) fun D doc pm an cdv ct us mv ws l1 l2 l3 => by
    match us, l1, ws, l3, mv, l2 with
    | [_], _, [_], _, [_], _ => exact ⟨_, _, _, _, _, _, rfl, rfl, rfl⟩
  exact ⟨_, h⟩
theorem kwd_rev : KwD (fun vs zs => vs ++ zs.reverse) (fun ds es => ds ++ es.reverse) := ⟨fun r1 r2 => r1.append r2.reverse⟩
theorem kwd_fst : KwD (fun vs zs => vs ++ zs ++ [.non]) (fun ds es => ds ++ es ++ [.v .non]) := ⟨fun r1 r2 => (r1.append r2).append (.cons (.v _) .nil)⟩
theorem kwd_snd : KwD (fun vs zs => vs ++ [.non] ++ zs) (fun ds es => ds ++ [.v .non] ++ es) := ⟨fun r1 r2 => (r1.append (.cons (.v _) .nil)).append r2⟩
section
variable {P : Program} {w : World} {K : PySem.W.Frag} {mg : Str → Option Value} {base : Heap} {fS : Addr} {fdS : FuncData}
theorem ok_stepsof {f : Addr} {fd : FuncData} (F : Fun K "_steps_of" "_steps_of" sStepsOf f fd) (B : Bi mg) : FnOk P w K mg base CX0 1 f fd ["plan"] (spOf K 1 spStepsOf) := by
  refine okH F scStepsOf fun cdv Ao outer s H E hr => have hu := hr.units; ⟨_, pssh_one (psh_ret (ph_lc (own := [("last", 1), ("rate", 2)]) (lg_tup (lg_cons lg_name (lg_cons lg_name lg_nil)) (len_cons goes_name (len_cons goes_name len_nil))) (keeps_tup (keeps_cons (keeps_name (by decide)) (keeps_cons (keeps_name (by decide)) keeps_nil mono_name) mono_name)) rfl scStepsOf.nd (pih_zip (by rfl) B.zip (pah_cons (ph_var (pv 0)) (pah_cons (ph_slice (ph_var (pv 0)) (poh_some (ph_c pe_int)) poh_none) pah_nil))) (blkOk_by (own := [("last", 1), ("rate", 2)]) (N := ["plan", "last", "rate"]) (sc := defScope sStepsOf) (by decide +kernel)) (fun _ _ _ _ _ => pg_tup rfl (pgs_cons (pg_name (i := 1) scStepsOf.nd rfl (Or.inl rfl)) (pgs_cons (pg_name (i := 2) scStepsOf.nd rfl (Or.inl rfl)) (pgs_nil)))) (fun _ _ _ _ _ => ptsh_nil) (fun _ _ _ _ _ => ph_callB l_abs call_abs (by rfl) B.abs (by decide +kernel) (pah_cons (ph_op l_sub op_sub (ph_var (pv 2)) (ph_var (pv 1))) pah_nil)))), ?_⟩
  rintro ds A Q ⟨rs, rfl, hl, q⟩
  have ec : cutD (dN rs) (some 1) none = dN (rs.drop 1) := by
    cases rs with
    | nil => rfl
    | cons a l =>
      rw [show (1 : Int) = ((1 : Nat) : Int) from rfl, cutD_from _ _ (by rw [dN_len, List.length_cons]; omega)]
      rfl
  walk_at "w"
  rw [ec]
  refine ⟨fun n acc A' => acc = dN ((steps rs).take n) ∧ A' = A, by show min (dN rs).length (dN (rs.drop 1)).length ≤ 100000; rw [dN_len]; omega, ⟨rfl, rfl⟩, fun _ _ _ _ _ => trivial, ?_, ?_⟩
  · rintro n d acc A' hn hd ⟨rfl, rfl⟩
    replace hn : n < min (dN rs).length (dN (rs.drop 1)).length := hn
    rw [dN_len, dN_len, List.length_drop] at hn
    have ha : rs[n]? = some rs[n] := List.getElem?_eq_getElem (by omega)
    have hb : rs[n + 1]? = some rs[n + 1] := List.getElem?_eq_getElem (by omega)
    generalize rs[n] = a at ha
    generalize rs[n + 1] = b at hb
    have hs := steps_at ha hb
    have hd' : (match (dN rs)[n]?, (dN (rs.drop 1))[n]? with | some d, some e => some (D.tup [d, e]) | _, _ => none) = some d := hd
    rw [List.getElem?_map, List.getElem?_map, List.getElem?_drop, Nat.add_comm 1 n, ha, hb] at hd'
    cases Option.some.inj hd'
    walk_at "w"
    refine .t ?_
    walk_at "w"
    refine ⟨?_, rfl⟩
    rw [List.take_add_one, hs, dN_app, show (if (b : Int) - (a : Int) < 0 then -((b : Int) - (a : Int)) else (b : Int) - (a : Int)) = ((max a b - min a b : Nat) : Int) by split <;> omega]
    rfl
  rintro acc A' ⟨rfl, rfl⟩
  intro j A1 n1
  rw [show List.take (srcZ (dN rs) (dN (rs.drop 1)) fun _ => True).n (steps rs) = steps rs by
    refine List.take_of_length_le ?_
    rw [steps_len]
    show _ ≤ min (dN rs).length (dN (rs.drop 1)).length
    rw [dN_len, dN_len, List.length_drop]
    omega] at n1
  exact q j A1 n1
theorem ok_inbounds {f : Addr} {fd : FuncData} (F : Fun K "in_bounds" "in_bounds" sInBounds f fd) (B : Bi mg) (FS : Fun K "_steps_of" "_steps_of" sStepsOf fS fdS) (mS : mg "_steps_of" = some (.ref fS)) (bS : L2.Binds K fdS ["plan"] []) :
    FnOk P w K mg base CX0 2 f fd ["plan", "steps", "switches"] (spOf K 3 spInBounds) := by
  have GS : FnOk P w K mg base CX0 1 fS fdS ["plan"] (spOf K 1 spStepsOf) := ok_stepsof FS B
  refine okH F scInBounds fun cdv Ao outer s H E hr => have hu := hr.units; have hr1 : Room 1 _ := hr; ⟨_, pssh_cons (psh_set (i := 3) scInBounds.nd rfl (Or.inl rfl) (ph_callO GS hr1 (by rfl) mS FS.kp bS (pah_cons (ph_var (pv 0)) pah_nil)))
    (pssh_cons (psh_if (PW.pt (pwh_and (pth_cmp l_notN op_notN (ph_var (pv 1)) (ph_c pe_non) (nomark _)) (pwh_and1 (pth_cmp l_gt op_gt (ph_maxD (by rfl) hu (by rfl) B.max (pah_cons (ph_var (pv 3)) pah_nil) (pkh_cons (ph_c pe_int) pkh_nil)) (ph_var (pv 1)) (nomark _))))) (pssh_one (psh_ret (ph_c pe_bl))) (pssh_nil))
    (pssh_one (psh_ret (ph_or (ph_cmp l_isN op_isN (ph_var (pv 2)) (ph_c pe_non) (nomark _)) (ph_one (ph_cmp l_le op_le (ph_callB l_len call_len (by rfl) B.len PySem.boot_len (pah_cons (ph_lc (own := [("step", 4)]) lg_name (keeps_name (by decide)) rfl scInBounds.nd (pih_seq (ph_var (pv 3))) (blkOk_by (own := [("step", 4)]) (N := ["plan", "steps", "switches", "taken", "step"]) (sc := defScope sInBounds) (by decide +kernel)) (fun _ _ _ _ _ => pg_name (i := 4) scInBounds.nd rfl (Or.inl rfl)) (fun _ _ _ _ _ => ptsh_one (pth_cmp l_gt op_gt (ph_var (pv 4)) (ph_c pe_int) (nomark _))) (fun _ _ _ _ _ => ph_var (pv 4))) pah_nil)) (ph_var (pv 2)) (nomark _))))))), ?_⟩
  rintro ds A Q ⟨rs, so, mo, rfl, hl, q⟩
  walk_at "w"
  refine ⟨rs, rfl, hl, fun j A1 n1 => ?_⟩
  have g1 := n1.get
  have kp1 : Kp [] A A1 := Kp.of_new n1
  have hsl : (steps rs).length ≤ 12 := by rw [steps_len]; omega
  -- the switches
  have fin : ∀ De : Eh, De.rt = Q → fitS (steps rs) so = true → ∀ v4, hRet (hOrV (hOp hIsN (hVar 2) (hC (.v .non))) (hOp (hI fun i j => decide (i ≤ j)) (hCB hLen (hCons (hLc (hIt (hVar 3)) (hgName 4) (hTest (hOp (hI fun i j => decide (j < i)) (hVar 4) (hC (.v (.int 0))))) (hVar 4) (List.map (fun x => x.snd) [("step", 4)])) hNil)) (hVar 2))) De
      [some (.tup (dN rs)), some (dO so), some (dO mo), some (.ptr j), v4] A1 := by
    intro De hrt e1 v4
    have e2 : fitB rs so mo = fitM (steps rs) mo := by unfold fitB; rw [e1, Bool.true_and]
    rw [e2] at q
    cases mo with
    | none =>
      walk_at "w"
      refine .t ?_
      rw [hrt]
      exact q A1 kp1
    | some m =>
      walk_at "w"
      refine .f ?_
      walk_at "w"
      refine ⟨_, g1, fun n acc A' => acc = dN (((steps rs).take n).filter fun s => decide (0 < s)) ∧ A' = A1, by show (dN (steps rs)).length ≤ 100000; rw [dN_len]; omega, ⟨rfl, rfl⟩, ?_, ?_, ?_⟩
      · rintro i acc A' _ ⟨_, rfl⟩
        exact g1
      · rintro n d acc A' hn hd ⟨rfl, rfl⟩
        obtain ⟨s, hs, rfl⟩ : ∃ s, (steps rs)[n]? = some s ∧ d = .v (.int (s : Nat)) := by
          have hd' : (dN (steps rs))[n]? = some d := hd
          rw [List.getElem?_map] at hd'
          cases e : (steps rs)[n]? with
          | none => rw [e] at hd'; cases hd'
          | some u => rw [e] at hd'; exact ⟨u, rfl, (Option.some.inj hd').symm⟩
        walk_at "w"
        refine .d (fun c => ?_) (fun c => ?_)
        · walk_at "w"
          refine ⟨?_, rfl⟩
          rw [List.take_add_one, hs, Option.toList_some, List.filter_append, dN_app, List.filter_cons, if_pos (decide_eq_true (show 0 < s by omega))]
          rfl
        · refine ⟨?_, rfl⟩
          rw [List.take_add_one, hs, Option.toList_some, List.filter_append, dN_app, List.filter_cons, if_neg (by rw [decide_eq_true_eq]; omega)]
          exact (List.append_nil _).symm
      rintro acc A' ⟨rfl, rfl⟩
      intro j2 A2 n2
      rw [show List.take (srcL j (dN (steps rs))).n (steps rs) = steps rs by
        show List.take (dN (steps rs)).length (steps rs) = _
        rw [dN_len, List.take_length]] at n2
      walk_at "w"
      refine ⟨_, n2.get, ?_⟩
      rw [dN_len]
      walk_at "w"
      show De.rt (.v (.bl (decide ((((steps rs).filter fun s => decide (0 < s)).length : Int) ≤ (m : Int))))) _
      rw [hrt, show decide ((((steps rs).filter fun s => decide (0 < s)).length : Int) ≤ (m : Int)) = fitM (steps rs) (some m) by
        show _ = decide _
        exact decide_eq_decide.mpr (by omega)]
      exact q A2 (kp1.new n2)
  cases so with
  | none =>
    walk_at "w"
    refine .f ?_
    refine .f ?_
    exact fin _ rfl rfl _
  | some m =>
    walk_at "w"
    refine .t ?_
    walk_at "w"
    refine ⟨(steps rs).map fun n : Nat => (n : Int), by rw [g1, dN_dI], ?_⟩
    have hm := mxd_le (steps rs) m
    walk_at "w"
    refine .d (fun c => ?_) (fun c => ?_)
    · have e : fitB rs (some m) mo = false := by
        unfold fitB fitS
        have : decide (∀ s ∈ steps rs, s ≤ m) = false := decide_eq_false fun z => by have := hm.mpr z; omega
        simp only [this, Bool.false_and]
      rw [e] at q
      exact q A1 kp1
    · exact fin _ rfl (decide_eq_true (hm.mp (by omega))) _
end
end Rp

namespace Rp
open PySem PySem.Spec PyProof.Rows L2
local macro_rules | `(tactic| walk_at "w") => `(tactic| (conv => whnf))
abbrev sLaw : Stmt := topS 8
theorem scLaw : FnScope ["_law_script", "_law_deck", "_law_turn", "_law_plan_here", "_law_one", "_law_other", "_law_told", "_law_due"] ["_law_script"] (defScope sLaw) :=
  ⟨rfl, rfl, rfl, by decide +kernel, rfl, by decide +kernel, by decide +kernel⟩
theorem dp_bools {A : OH} : ∀ bs : List Bool, DPs A (bs.map fun b => D.v (.bl b)) (bs.map PyData.bool)
  | [] => .nil
  | b :: bs => .cons (.bl b) (dp_bools bs)
theorem shw_five (a b c d e : Bool) : Shw (.list ([a, b, c, d, e].map PyData.bool)) := by
  cases a <;> cases b <;> cases c <;> cases d <;> cases e <;> exact ⟨rfl, rfl, by decide, by decide +kernel⟩
section
variable {P : Program} {w : World} {K : PySem.W.Frag} {mg : Str → Option Value} {base : Heap} {fS fB fDk fDr fP fF : Addr} {fdS fdB fdDk fdDr fdP fdF : FuncData}
theorem ok_law {f : Addr} {fd : FuncData} (F : Fun K "law" "law" sLaw f fd) (B : Bi mg)
    (FS : Fun K "_steps_of" "_steps_of" sStepsOf fS fdS) (mS : mg "_steps_of" = some (.ref fS)) (bS : L2.Binds K fdS ["plan"] [])
    (FB' : Fun K "in_bounds" "in_bounds" sInBounds fB fdB) (FB : FunD K "in_bounds" "in_bounds" (defArgs sInBounds) (defBody sInBounds) (defScope sInBounds) [] [("steps", .non), ("switches", .non)] fB fdB) (mB : mg "in_bounds" = some (.ref fB))
    (FD : Fun K "_law_opened" "_law_opened" sDeck fDk fdDk) (mD : mg "_law_opened" = some (.ref fDk)) (bD : L2.Binds K fdDk ["_law_script"] [])
    (FDr : Fun K "_law_draw" "_law_draw" sDraw fDr fdDr) (mDr : mg "_law_draw" = some (.ref fDr)) (bDr : L2.Binds K fdDr ["_law_deck", "_law_many"] [])
    (FP : Fun K "_law_plan" "_law_plan" sPlan fP fdP) (mP : mg "_law_plan" = some (.ref fP)) (bP : L2.Binds K fdP ["_law_deck"] [])
    (FF : Fun K "_law_fits" "_law_fits" sFits fF fdF) (mF : mg "_law_fits" = some (.ref fF)) (bF : L2.Binds K fdF ["_law_plan_here", "_law_step_most", "_law_many"] []) :
    FnG P w K mg base CX0 3 f fd ["_law_script"] (spOf K 1 spLawH) := by
  have GB : FnOk P w K mg base CX0 2 fB fdB ["plan", "steps", "switches"] (spOf K 3 spInBounds) := ok_inbounds FB' B FS mS bS
  have GD : FnG P w K mg base CX0 1 fDk fdDk ["_law_script"] (spOf K 1 spDeck) := ok_deck FD B
  have GDr : FnG P w K mg base CX0 1 fDr fdDr ["_law_deck", "_law_many"] (spOf K 2 spDraw) := ok_draw FDr B
  have GP : FnG P w K mg base CX0 2 fP fdP ["_law_deck"] (spOf K 1 spPlan) := ok_plan FP B FDr mDr bDr
  have GF : FnG P w K mg base CX0 1 fF fdF ["_law_plan_here", "_law_step_most", "_law_many"] (spOf K 3 spFits) := ok_fits FF B
  refine okGH F scLaw fun cdv Ao outer s H E gA hr => have hu := hr.units; have hr1 : Room 1 _ := hr.mono (by decide); have hr2 : Room 2 _ := hr; ⟨_, pssh_cons (psh_set (i := 1) scLaw.nd rfl (Or.inl rfl) (ph_call GD gA hr1 (by rfl) mD FD.kp bD (pah_cons (ph_var (pv 0)) pah_nil)))
    (pssh_cons (psh_for lg_name PassesOwn.never rfl (pih_range1 (by rfl) B.range (pah_cons (ph_c pe_int) pah_nil)) (pg_name (i := 2) scLaw.nd rfl (Or.inl rfl)) (pssh_cons (psh_set (i := 3) scLaw.nd rfl (Or.inl rfl) (ph_call GP gA hr2 (by rfl) mP FP.kp bP (pah_cons (ph_var (pv 1)) pah_nil)))
      (pssh_cons (psh_par (i := 4) (j := 5) rfl scLaw.nd rfl rfl (by decide) rfl rfl (pah_cons (ph_call GDr gA hr1 (by rfl) mDr FDr.kp bDr (pah_cons (ph_var (pv 1)) (pah_cons (ph_c pe_int) pah_nil))) (pah_cons (ph_call GDr gA hr1 (by rfl) mDr FDr.kp bDr (pah_cons (ph_var (pv 1)) (pah_cons (ph_c pe_int) pah_nil))) pah_nil)) rfl)
      (pssh_cons (psh_set (i := 6) scLaw.nd rfl (Or.inl rfl) (ph_lst (pah_cons (ph_callK GB hr2 (by rfl) mB FB.kp kwd_app (ib_both FB) (pah_cons (ph_var (pv 3)) pah_nil) (pkh_cons (ph_var (pv 4)) (pkh_cons (ph_var (pv 5)) pkh_nil))) (pah_cons (ph_callK GB hr2 (by rfl) mB FB.kp kwd_rev (ib_rev FB) (pah_cons (ph_var (pv 3)) pah_nil) (pkh_cons (ph_var (pv 5)) (pkh_cons (ph_var (pv 4)) pkh_nil))) pah_nil))))
      (pssh_cons (psh_set (i := 6) scLaw.nd rfl (Or.inl rfl) (ph_op l_add op_addA (ph_var (pv 6)) (ph_lst (pah_cons (ph_callK GB hr2 (by rfl) mB FB.kp kwd_fst (ib_steps FB) (pah_cons (ph_var (pv 3)) pah_nil) (pkh_cons (ph_var (pv 4)) pkh_nil)) (pah_cons (ph_callK GB hr2 (by rfl) mB FB.kp kwd_snd (ib_switches FB) (pah_cons (ph_var (pv 3)) pah_nil) (pkh_cons (ph_var (pv 5)) pkh_nil)) (pah_cons (ph_callD GB hr2 (by rfl) mB FB.kp (ib_none FB) (pah_cons (ph_var (pv 3)) pah_nil)) pah_nil))))))
      (pssh_cons (psh_set (i := 7) scLaw.nd rfl (Or.inl rfl) (ph_op l_add op_addA (ph_op l_mul op_mulA (ph_lst (pah_cons (ph_call GF gA hr1 (by rfl) mF FF.kp bF (pah_cons (ph_var (pv 3)) (pah_cons (ph_var (pv 4)) (pah_cons (ph_var (pv 5)) pah_nil)))) pah_nil)) (ph_c pe_int)) (ph_lst (pah_cons (ph_call GF gA hr1 (by rfl) mF FF.kp bF (pah_cons (ph_var (pv 3)) (pah_cons (ph_var (pv 4)) (pah_cons (ph_c pe_non) pah_nil)))) (pah_cons (ph_call GF gA hr1 (by rfl) mF FF.kp bF (pah_cons (ph_var (pv 3)) (pah_cons (ph_c pe_non) (pah_cons (ph_var (pv 5)) pah_nil)))) (pah_cons (ph_c pe_bl) pah_nil))))))
      (pssh_one (psh_if (PW.pt (pwh_or (pth_cmp l_ne (op_neA hu) (ph_callB l_repr (call_reprD gA hu) (by rfl) B.repr boot_repr (pah_cons (ph_var (pv 6)) pah_nil)) (ph_callB l_repr (call_reprD gA hu) (by rfl) B.repr boot_repr (pah_cons (ph_var (pv 7)) pah_nil)) (nomark _)) (pwh_or1 (pth_cmp l_ne (op_neA hu) (ph_callK GB hr2 (by rfl) mB FB.kp kwd_rev (ib_rev FB) (pah_cons (ph_var (pv 3)) pah_nil) (pkh_cons (ph_c pe_non) (pkh_cons (ph_var (pv 4)) pkh_nil))) (ph_ix l_ix ix_seq (ph_var (pv 7)) (ph_c pe_int) (fun _ _ => rfl)) (nomark _))))) (pssh_one (psh_ret (ph_c pe_bl))) (pssh_nil)))))))))
    (pssh_one (psh_ret (ph_c pe_bl)))), ?_⟩
  rintro ds A Q ⟨ns, rfl, hn, q⟩
  have ez : sizeLine = 16777216 := sizeLine_eq
  walk_at "w"
  refine ⟨ns, rfl, hn, fun k c A1 D1 kp1 => ?_⟩
  clear kp1
  walk_at "w"
  refine ⟨⟨by decide, by decide⟩, fun i σ A' => ∃ v2 v3 v4 v5 v6 v7, σ = [some (.scr ns), some (.ptr k), v2, v3, v4, v5, v6, v7] ∧ DeckAt A' k c, ⟨_, _, _, _, _, _, rfl, D1⟩, fun _ _ _ _ _ => trivial, ?_, ?_⟩
  · rintro i d σ A1 hi hd ⟨v2, v3, v4, v5, v6, v7, rfl, D1⟩
    cases Option.some.inj hd
    have keepD : ∀ {B B' : OH}, DeckAt B k c → Kp [] B B' → DeckAt B' k c := fun {B B'} D kp => ⟨let ⟨s, m, h⟩ := D.deck; ⟨s, m, kp _ _ (fun z => nomatch z) h⟩, let ⟨cs, h, l⟩ := D.cells; ⟨cs, kp _ _ (fun z => nomatch z) h, l⟩⟩
    walk_at "w"
    refine ⟨k, c, rfl, D1, fun rs A2 hl _ D2 kp2 => ?_⟩
    clear D1 kp2
    walk_at "w"
    refine ⟨k, c, _, rfl, D2, by decide, by decide, fun a A3 a0 a1 D3 kp3 => ?_⟩
    clear D2 kp3
    walk_at "w"
    refine ⟨k, c, _, rfl, D3, by decide, by decide, fun b A4 b0 b1 D4 kp4 => ?_⟩
    clear D3 kp4
    obtain ⟨a, rfl⟩ := Int.eq_ofNat_of_zero_le a0
    obtain ⟨b, rfl⟩ := Int.eq_ofNat_of_zero_le b0
    walk_at "w"
    refine ⟨rs, some a, some b, rfl, hl, fun A5 kp5 => ?_⟩
    walk_at "w"
    refine ⟨rs, some a, some b, rfl, hl, fun A6 kp6 => ?_⟩
    walk_at "w"
    intro j7 A7 n7
    have kp7 : Kp [] A4 A7 := (kp5.trans kp6).new n7
    have h7 := n7.get
    clear kp5 kp6 n7
    walk_at "w"
    refine ⟨rs, some a, none, rfl, hl, fun A8 kp8 => ?_⟩
    walk_at "w"
    refine ⟨rs, none, some b, rfl, hl, fun A9 kp9 => ?_⟩
    walk_at "w"
    refine ⟨rs, none, none, rfl, hl, fun A10 kp10 => ?_⟩
    have kp10' := (kp8.trans kp9).trans kp10
    walk_at "w"
    intro j11 A11 n11
    have h7 := n11.old (kp10' _ _ (fun z => nomatch z) h7)
    walk_at "w"
    refine ⟨_, _, h7, n11.get, by show 5 ≤ sizeLine; omega, fun j12 A12 n12 => ?_⟩
    have h12 := n12.get
    have kp12 : Kp [] A4 A12 := ((kp7.trans kp10').new n11).new n12
    clear h7 n12 n11 kp10' kp8 kp9 kp10 kp7
    walk_at "w"
    refine ⟨rs, some a, some b, rfl, hl, ?_⟩
    walk_at "w"
    intro j13 A13 n13
    walk_at "w"
    refine ⟨_, n13.get, by decide, by decide, by show 1 * 2 ≤ sizeLine; omega, fun j14 A14 n14 => ?_⟩
    walk_at "w"
    refine ⟨rs, some a, none, rfl, hl, ?_⟩
    walk_at "w"
    refine ⟨rs, none, some b, rfl, hl, ?_⟩
    walk_at "w"
    intro j15 A15 n15
    walk_at "w"
    refine ⟨_, _, n15.old n14.get, n15.get, by show 5 ≤ sizeLine; omega, fun j16 A16 n16 => ?_⟩
    have h16 := n16.get
    have g12 := n16.old (n15.old (n14.old (n13.old h12)))
    have kp16 := (((kp12.new n13).new n14).new n15).new n16
    clear n13 n14 n15 n16 h12 kp12
    generalize hx1 : fitB rs (some a) (some b) = x1 at h16 g12
    generalize hx2 : fitB rs (some a) none = x2 at h16 g12
    generalize hx3 : fitB rs none (some b) = x3 at h16 g12
    replace h16 : A16[j16]? = some (.lst ([x1, x1, x2, x3, true].map fun b => D.v (.bl b))) := h16
    replace g12 : A16[j12]? = some (.lst ([x1, x1, x2, x3, true].map fun b => D.v (.bl b))) := g12
    walk_at "w"
    refine ⟨_, .lst g12 (dp_bools _), shw_five _ _ _ _ _, ?_⟩
    walk_at "w"
    refine ⟨_, .lst h16 (dp_bools _), shw_five _ _ _ _ _, ?_⟩
    walk_at "w"
    refine .n (fun c => absurd rfl c) (fun _ => ?_)
    walk_at "w"
    refine ⟨rs, some a, none, rfl, hl, fun A17 kp17 => ?_⟩
    rw [hx2]
    walk_at "w"
    refine ⟨_, kp17 _ _ (fun z => nomatch z) h16, .v (.bl x2), rfl, ?_⟩
    walk_at "w"
    refine .n (fun c => absurd rfl c) (fun _ => ?_)
    exact ⟨_, _, _, _, _, _, rfl, keepD D4 (kp16.trans kp17)⟩
  · rintro σ A1 ⟨v2, v3, v4, v5, v6, v7, rfl, D1⟩
    exact q A1
end
end Rp

namespace Rp
open PySem PySem.Spec PyProof.Rows L2
/-! ### the law's call, the guards known -/
section
variable {P : Program} {w : World} {K : PySem.W.Frag} {mg mb : Str → Option Value} {CX : CXT} {k : Nat} {fa a : Addr} {fd : FuncData} {x : Str} {sp : Sp} {s : Shared} {vs : List Value} {ns : List Int}
/-- from one abstract heap that holds the script at most -/
theorem law_coreG {H : Hp} (inK : K.In s.heap) (gl : s.heap.Ns mainGlobals mg) (bn : s.heap.Ns builtinsNs mb) (boot : ∀ y : Str, y ≠ "__name__" → mb y = bootBuiltins y) (lim : s.heap.NoLimit) (gens : s.gens = #[])
    (at_ : s.heap.get? a = some { cls := .type "list", data := .seq vs.toArray }) (room : Room k callerA)
    (F : ∀ base : Heap, K.In base → base.Ns mainGlobals mg → FnG P w K mg base CX k fa fd [x] sp) (bind : ∀ (s : Shared) (u : Value), BindsTo s fd ⟨[u], []⟩ [(x, u)])
    (one : ∀ b, H b = none ∨ ∃ o xs, H b = some (.frz o (.lst xs))) (ok : HOk P w H s.heap) (alone : ∀ b, H b ≠ none → b = a) (apart : H a ≠ none → K.lookup a = none)
    (keeps : sp [.ref a] H (fun v _ => v = .bl true) fun _ _ _ => False) (noX : ∀ e s', CX [] H s (fun _ _ _ => False) e s' → False) :
    codeAny (model P w) callerA (.call (.ref fa) ⟨[.ref a], []⟩) (fun r s' => r = .ok (.ret (.bool true)) ∧ OldK s.heap s'.heap ∧ s'.os = s.os ∧ AllBare s'.gens) s := by
  have noDict : ∀ {b : Addr} {o : Obj} {es : Array DictEntry} {ep : Nat}, s.heap.get? b = some o → o.data = .dict es ep → H b = none := fun {b o es ep} e d => by
    by_cases q : H b = none
    · exact q
    · have z := alone b q
      subst z
      rw [at_] at e
      cases e
      cases d
  have ns' : ∀ {b : Addr} {m : Str → Option Value}, s.heap.Ns b m → (hidT s.heap H).Ns b m := fun {b m} ⟨o, es, ep, e, d, r⟩ => ⟨o, es, ep, hidT_get e (noDict e d), d, r⟩
  have inB : K.In (hidT s.heap H) := fun b o e => hidT_get (inK b o e) (by
    by_cases q : H b = none
    · exact q
    · have z := alone b q
      subst z
      rw [apart q] at e
      cases e)
  obtain ⟨mc, lim1, lim2⟩ := lim
  have md : Mod K mg (hidT s.heap H) := ⟨inB, ns' gl, ⟨mb, ns' bn, boot⟩, ⟨mc, ns' lim1, lim2⟩⟩
  have en : Env0 P w K mg (hidT s.heap H) callerA [] s H := ⟨rfl, md, fun b o e => of_hidT e, Nat.le_of_eq (hidT_size _ _), trivial, fun b z => absurd z List.not_mem_nil, ok, .of_eq gens⟩
  refine codeAny_mono ((F _ inB (ns' gl)).go callerA [] s H ⟨[.ref a], []⟩ [.ref a] [.ref a] _ _ rfl room en (bind s (.ref a)) (.cons rfl .nil) keeps) fun r s' hr => ?_
  rcases r with e | fl
  · exact (noX e s' hr).elim
  · cases fl with
    | ret u =>
      obtain ⟨v, H', os, bare, un, ok', rv, rfl⟩ := hr
      cases rv
      refine ⟨rfl, OldK.of_keep fun b o e => ?_, os, bare⟩
      rcases one b with q | ⟨ob, xs, q⟩
      · exact un.keep b o e q (fun z => by cases z) (fun z => by cases z)
      · have e1 := (ok b _ q).1
        have e2 := (ok' b _ (un.frzs b ob _ q)).1
        rw [e] at e1
        cases e1
        exact e2
    | next => exact hr.elim
    | brk => exact hr.elim
    | cont => exact hr.elim
theorem law_callG (inK : K.In s.heap) (gl : s.heap.Ns mainGlobals mg) (bn : s.heap.Ns builtinsNs mb) (boot : ∀ y : Str, y ≠ "__name__" → mb y = bootBuiltins y) (lim : s.heap.NoLimit) (gens : s.gens = #[])
    (at_ : s.heap.get? a = some { cls := .type "list", data := .seq vs.toArray }) (hin : IntsAre vs ns) (few : ns.length ≤ sizeLine) (room : Room k callerA)
    (F : ∀ base : Heap, K.In base → base.Ns mainGlobals mg → FnG P w K mg base CX k fa fd [x] sp) (bind : ∀ (s : Shared) (u : Value), BindsTo s fd ⟨[u], []⟩ [(x, u)])
    (keeps : ∀ H : Hp, Only H → SqL K H a (ns.map V.int) → sp [.ref a] H (fun v _ => v = .bl true) fun _ _ _ => False) (noX : ∀ H e s', CX [] H s (fun _ _ _ => False) e s' → False) :
    codeAny (model P w) callerA (.call (.ref fa) ⟨[.ref a], []⟩) (fun r s' => r = .ok (.ret (.bool true)) ∧ OldK s.heap s'.heap ∧ s'.os = s.os ∧ AllBare s'.gens) s := by
  have rel := vals_ints hin
  cases lk : K.lookup a with
  | some o =>
    have e := inK a o lk
    rw [at_] at e
    cases e
    refine law_coreG (H := fun _ => none) inK gl bn boot lim gens at_ room F bind (fun _ => .inl rfl) (fun b u z => by cases z) (fun b z => (z rfl).elim) (fun z => (z rfl).elim) (keeps _ (fun _ => .inl rfl) ?_) (noX _)
    exact .inr ⟨_, vs.toArray, _, lk, rfl, rfl, rfl, by rw [List.size_toArray, hin.length]; exact few, by simpa using rel⟩
  | none =>
    have here : (fun b => if b = a then some (HO.frz { cls := .type "list", data := .seq vs.toArray } (.lst (ns.map V.int))) else none) a = some (HO.frz { cls := .type "list", data := .seq vs.toArray } (.lst (ns.map V.int))) := if_pos rfl
    have only : ∀ b, (fun b => if b = a then some (HO.frz { cls := .type "list", data := .seq vs.toArray } (.lst (ns.map V.int))) else none) b = none ∨ ∃ o xs, (fun b => if b = a then some (HO.frz { cls := .type "list", data := .seq vs.toArray } (.lst (ns.map V.int))) else none) b = some (.frz o (.lst xs)) := fun b => by
      by_cases q : b = a
      · exact .inr ⟨_, _, if_pos q⟩
      · exact .inl (if_neg q)
    refine law_coreG inK gl bn boot lim gens at_ room F bind only (fun b u z => ?_) (fun b z => ?_) (fun _ => lk) (keeps _ only (.inl (.inr ⟨_, here⟩))) (noX _)
    · by_cases q : b = a
      · subst q
        have z' := here.symm.trans z
        cases z'
        exact ⟨at_, by rw [List.length_map]; exact few, vs, 0, rel, at_⟩
      · rw [if_neg q] at z
        cases z
    · by_cases q : b = a
      · exact q
      · exact (z (if_neg q)).elim
end
/-- the end of a row: the written part's facts, the law's def, its promise -/
theorem walkG {l : PySem.W.OpenLaw} {n k : Nat} {q : Program} {loose : List Str} {XP : (Str → Option Value) → Heap → Prop} {YP : World → Heap → Prop} {d : DefRec} {K : Params → PySem.W.Frag} {CX : World → CXT} {sp : PySem.W.Frag → Sp} {x : Str}
    (hn : l.most = some n) (hn2 : n ≤ sizeLine) (hdf : d.params.defaults = []) (room : Room k callerA) (hY : ∀ (w : World) (h : Heap), YP w h → (K w.params).In h)
    (F : ∀ (w : World) (mg : Str → Option Value) (fa : Addr) (h : Heap), (K w.params).In h → h.Ns mainGlobals mg → mg d.name = some (.ref fa) →
      ∃ fd : FuncData, (∀ (s : Shared) (u : Value), BindsTo s fd ⟨[u], []⟩ [(x, u)]) ∧ ∀ base : Heap, (K w.params).In base → base.Ns mainGlobals mg → FnG l.prog w (K w.params) mg base (CX w) k fa fd [x] (sp (K w.params)))
    (keeps : ∀ (K : PySem.W.Frag) (H : Hp) (a : Addr) (ns : List Int), ns.length ≤ n → Only H → SqL K H a (ns.map V.int) → sp K [.ref a] H (fun v _ => v = .bl true) fun _ _ _ => False)
    (noX : ∀ (w : World) (H : Hp) (s : Shared) (e : Value) (s' : Shared), CX w [] H s (fun _ _ _ => False) e s' → False) : PySem.W.WalkO q loose XP YP l.row.toRowW d [] (fun f vs => PySem.call f vs) := by
  refine Att.attach_call hn hdf fun w s0 s1 mg mb fa o pm cd doc a vs ns G Y _ _ _ hmg hobj hints hlen hg => ?_
  obtain ⟨fd, hb, hF⟩ := F w mg fa _ (hY w _ Y) G.T.g hmg
  exact law_callG (hY w _ Y) G.T.g G.T.b G.T.builtins G.T.nolimit hg hobj hints (Nat.le_trans hlen hn2) room hF hb (fun H only sq => keeps (K w.params) H a ns hlen only sq) fun H e s' => noX w H s1 e s'
/-! ### small data may be shown -/
structure Sm (n : Nat) (d : PyData) : Prop where
  ls : d.leavesShort 40 = true
  sh : d.showable = true
  nd : d.hasDict = false
  dp : d.depth ≤ n
  wt : d.weight ≤ 4 ^ n * 64
theorem Sm.shw {n : Nat} {d : PyData} (h : Sm n d) (hn : n ≤ 6) : Shw d := by
  refine ⟨h.sh, h.nd, by have := h.dp; omega, ?_⟩
  have q := PyData.shown_le 40 (by decide) d h.ls
  have w := h.wt
  have m : (4 : Nat) ^ n ≤ 4 ^ 6 := Nat.pow_le_pow_right (by decide) hn
  have e : sizeLine = 16777216 := rfl
  rw [e]
  have : (4 : Nat) ^ 6 = 4096 := by decide
  omega
end Rp

namespace Rp
open PySem PySem.Spec PyProof.Rows L2
theorem all_mk {w : World} {K : PySem.W.Frag} {h : Heap} {mg : Str → Option Value} {fa : Addr} (X : K.In h) (G : h.Ns mainGlobals mg) (hfa : mg "law" = some (.ref fa))
    {fB_ eB_ fS_ fD_ fDr fP_ fF_ fLaw : Addr} {odB_ anB_ odS_ anS_ odD_ anD_ odDr anDr odP_ anP_ odF_ anF_ odLaw anLaw : Option Addr} {slB_ slS_ slD_ slDr slP_ slF_ slLaw : Array (Option Value)} {ocB_ dcB_ pmB_ cdB_ ctB_ ocS_ kVS_ dcS_ pmS_ cdS_ ctS_ ocD_ kVD_ dcD_ pmD_ cdD_ ctD_ ocDr kVDr dcDr pmDr cdDr ctDr ocP_ kVP_ dcP_ pmP_ cdP_ ctP_ ocF_ kVF_ dcF_ pmF_ cdF_ ctF_ ocLaw kVLaw dcLaw pmLaw cdLaw ctLaw : Value}
    (gB_ : PySem.W.nsIn K mainGlobals "in_bounds" = some (some (.ref fB_)))
    (lB_ : K.lookup fB_ = some ⟨ocB_, odB_, .func (PySem.W.fnOf "in_bounds" "in_bounds" (defArgs sInBounds) (defBody sInBounds) (defScope sInBounds) .none (.ref eB_) dcB_ pmB_ anB_ cdB_ ctB_), slB_⟩)
    (cB_ : PySem.W.codeIn K cdB_ "in_bounds" = true)
    (kB_ : PySem.W.keepIn K (.ref fB_) = true)
    (wB__steps : PySem.W.nsIn K eB_ "steps" = some (some .none))
    (wB__switches : PySem.W.nsIn K eB_ "switches" = some (some .none))
    (gS_ : PySem.W.nsIn K mainGlobals "_steps_of" = some (some (.ref fS_)))
    (lS_ : K.lookup fS_ = some ⟨ocS_, odS_, .func (PySem.W.fnOf "_steps_of" "_steps_of" (defArgs sStepsOf) (defBody sStepsOf) (defScope sStepsOf) .none kVS_ dcS_ pmS_ anS_ cdS_ ctS_), slS_⟩)
    (cS_ : PySem.W.codeIn K cdS_ "_steps_of" = true)
    (kS_ : PySem.W.keepIn K (.ref fS_) = true)
    (gD_ : PySem.W.nsIn K mainGlobals "_law_opened" = some (some (.ref fD_)))
    (lD_ : K.lookup fD_ = some ⟨ocD_, odD_, .func (PySem.W.fnOf "_law_opened" "_law_opened" (defArgs sDeck) (defBody sDeck) (defScope sDeck) .none kVD_ dcD_ pmD_ anD_ cdD_ ctD_), slD_⟩)
    (cD_ : PySem.W.codeIn K cdD_ "_law_opened" = true)
    (kD_ : PySem.W.keepIn K (.ref fD_) = true)
    (gDr : PySem.W.nsIn K mainGlobals "_law_draw" = some (some (.ref fDr)))
    (lDr : K.lookup fDr = some ⟨ocDr, odDr, .func (PySem.W.fnOf "_law_draw" "_law_draw" (defArgs sDraw) (defBody sDraw) (defScope sDraw) .none kVDr dcDr pmDr anDr cdDr ctDr), slDr⟩)
    (cDr : PySem.W.codeIn K cdDr "_law_draw" = true)
    (kDr : PySem.W.keepIn K (.ref fDr) = true)
    (gP_ : PySem.W.nsIn K mainGlobals "_law_plan" = some (some (.ref fP_)))
    (lP_ : K.lookup fP_ = some ⟨ocP_, odP_, .func (PySem.W.fnOf "_law_plan" "_law_plan" (defArgs sPlan) (defBody sPlan) (defScope sPlan) .none kVP_ dcP_ pmP_ anP_ cdP_ ctP_), slP_⟩)
    (cP_ : PySem.W.codeIn K cdP_ "_law_plan" = true)
    (kP_ : PySem.W.keepIn K (.ref fP_) = true)
    (gF_ : PySem.W.nsIn K mainGlobals "_law_fits" = some (some (.ref fF_)))
    (lF_ : K.lookup fF_ = some ⟨ocF_, odF_, .func (PySem.W.fnOf "_law_fits" "_law_fits" (defArgs sFits) (defBody sFits) (defScope sFits) .none kVF_ dcF_ pmF_ anF_ cdF_ ctF_), slF_⟩)
    (cF_ : PySem.W.codeIn K cdF_ "_law_fits" = true)
    (kF_ : PySem.W.keepIn K (.ref fF_) = true)
    (gLaw : PySem.W.nsIn K mainGlobals "law" = some (some (.ref fLaw)))
    (lLaw : K.lookup fLaw = some ⟨ocLaw, odLaw, .func (PySem.W.fnOf "law" "law" (defArgs sLaw) (defBody sLaw) (defScope sLaw) .none kVLaw dcLaw pmLaw anLaw cdLaw ctLaw), slLaw⟩)
    (cLaw : PySem.W.codeIn K cdLaw "law" = true)
    (kLaw : PySem.W.keepIn K (.ref fLaw) = true)
    (zint : PySem.W.nsIn K mainGlobals "int" = some none)
    (zlen : PySem.W.nsIn K mainGlobals "len" = some none)
    (zrange : PySem.W.nsIn K mainGlobals "range" = some none)
    (ztuple : PySem.W.nsIn K mainGlobals "tuple" = some none)
    (zlist : PySem.W.nsIn K mainGlobals "list" = some none)
    (zmax : PySem.W.nsIn K mainGlobals "max" = some none)
    (zmin : PySem.W.nsIn K mainGlobals "min" = some none)
    (zsum : PySem.W.nsIn K mainGlobals "sum" = some none)
    (zisinstance : PySem.W.nsIn K mainGlobals "isinstance" = some none)
    (zrepr : PySem.W.nsIn K mainGlobals "repr" = some none)
    (zstr : PySem.W.nsIn K mainGlobals "str" = some none)
    (zabs : PySem.W.nsIn K mainGlobals "abs" = some none)
    (zenumerate : PySem.W.nsIn K mainGlobals "enumerate" = some none)
    (zzip : PySem.W.nsIn K mainGlobals "zip" = some none)
    (zbool : PySem.W.nsIn K mainGlobals "bool" = some none)
    : ∃ fd : FuncData, (∀ (s : Shared) (u : Value), BindsTo s fd ⟨[u], []⟩ [("_law_script", u)]) ∧ ∀ base : Heap, K.In base → base.Ns mainGlobals mg → FnG PySem.Challenge.pw_rateplan_k34_plans_within_bounds w K mg base CX0 3 fa fd ["_law_script"] (spOf K 1 spLawH) := by
  have e := hfa.symm.trans (PySem.W.mg_of X G gLaw)
  cases e
  have FB_ := fun_mk (st := sInBounds) lB_ cB_ kB_
  have GB_ := funD_of (kws := [("steps", .non), ("switches", .non)]) (params := defArgs sInBounds) (body := defBody sInBounds) (scope := defScope sInBounds) lB_ cB_ kB_ (fun q hq => by simp only [List.mem_cons, List.not_mem_nil, or_false] at hq; rcases hq with rfl | rfl <;> first | exact ⟨_, wB__steps, rfl⟩ | exact ⟨_, wB__switches, rfl⟩)
  have mB_ := PySem.W.mg_of X G gB_
  have FS_ := fun_mk (st := sStepsOf) lS_ cS_ kS_
  have bS_ := FS_.binds (ps := ["plan"]) fun _ _ _ _ _ _ us hl => match us, hl with | [_], _ => rfl
  have mS_ := PySem.W.mg_of X G gS_
  have FD_ := fun_mk (st := sDeck) lD_ cD_ kD_
  have bD_ := FD_.binds (ps := ["_law_script"]) fun _ _ _ _ _ _ us hl => match us, hl with | [_], _ => rfl
  have mD_ := PySem.W.mg_of X G gD_
  have FDr := fun_mk (st := sDraw) lDr cDr kDr
  have bDr := FDr.binds (ps := ["_law_deck", "_law_many"]) fun _ _ _ _ _ _ us hl => match us, hl with | [_, _], _ => rfl
  have mDr := PySem.W.mg_of X G gDr
  have FP_ := fun_mk (st := sPlan) lP_ cP_ kP_
  have bP_ := FP_.binds (ps := ["_law_deck"]) fun _ _ _ _ _ _ us hl => match us, hl with | [_], _ => rfl
  have mP_ := PySem.W.mg_of X G gP_
  have FF_ := fun_mk (st := sFits) lF_ cF_ kF_
  have bF_ := FF_.binds (ps := ["_law_plan_here", "_law_step_most", "_law_many"]) fun _ _ _ _ _ _ us hl => match us, hl with | [_, _, _], _ => rfl
  have mF_ := PySem.W.mg_of X G gF_
  have FLaw := fun_mk (st := sLaw) lLaw cLaw kLaw
  have bLaw := FLaw.binds (ps := ["_law_script"]) fun _ _ _ _ _ _ us hl => match us, hl with | [_], _ => rfl
  have mLaw := PySem.W.mg_of X G gLaw
  have nint := PySem.W.mg_none_of X G zint
  have nlen := PySem.W.mg_none_of X G zlen
  have nrange := PySem.W.mg_none_of X G zrange
  have ntuple := PySem.W.mg_none_of X G ztuple
  have nlist := PySem.W.mg_none_of X G zlist
  have nmax := PySem.W.mg_none_of X G zmax
  have nmin := PySem.W.mg_none_of X G zmin
  have nsum := PySem.W.mg_none_of X G zsum
  have nisinstance := PySem.W.mg_none_of X G zisinstance
  have nrepr := PySem.W.mg_none_of X G zrepr
  have nstr := PySem.W.mg_none_of X G zstr
  have nabs := PySem.W.mg_none_of X G zabs
  have nenumerate := PySem.W.mg_none_of X G zenumerate
  have nzip := PySem.W.mg_none_of X G zzip
  have nbool := PySem.W.mg_none_of X G zbool
  have B : Bi mg := ⟨nint, nlen, nrange, ntuple, nlist, nmax, nmin, nsum, nisinstance, nrepr, nstr, nabs, nenumerate, nzip, nbool⟩
  exact ⟨PySem.W.fnOf "law" "law" (defArgs sLaw) (defBody sLaw) (defScope sLaw) .none kVLaw dcLaw pmLaw anLaw cdLaw ctLaw, fun s v => .of_eq rfl, fun base _ _ => ok_law FLaw B FS_ mS_ bS_ FB_ GB_ mB_ FD_ mD_ bD_ FDr mDr bDr FP_ mP_ bP_ FF_ mF_ bF_⟩
end Rp
open PySem PySem.W PyProof.Rows
set_option maxRecDepth 100000 in
set_option maxHeartbeats 0 in
theorem PySem.Challenge.cw_rateplan_k34_plans_within_bounds_holds : PySem.Challenge.rw_rateplan_k34_plans_within_bounds.Holds := by
  w_on; o_law; k_head; (case hw => w_witness2)
  k_fill
  refine Rp.walkG (l := PySem.Challenge.rw_rateplan_k34_plans_within_bounds) (n := 63) (k := 3) (x := "_law_script") (CX := fun _ => L2.CX0) (sp := fun K => Rp.spOf K 1 Rp.spLawH) rfl (by decide) rfl ⟨rfl, by decide, by decide⟩ (fun w h Y => PySem.W.kIn_of Y) ?F (fun K H a ns hn on hS => Rp.lawH hn on hS) (fun _ _ _ _ _ z => z)
  case F =>
    intro w mg fa h KX G hmg
    refine' Rp.all_mk KX G hmg ?gB_ ?lB_ ?cB_ ?kB_ ?wB__steps ?wB__switches ?gS_ ?lS_ ?cS_ ?kS_ ?gD_ ?lD_ ?cD_ ?kD_ ?gDr ?lDr ?cDr ?kDr ?gP_ ?lP_ ?cP_ ?kP_ ?gF_ ?lF_ ?cF_ ?kF_ ?gLaw ?lLaw ?cLaw ?kLaw ?zint ?zlen ?zrange ?ztuple ?zlist ?zmax ?zmin ?zsum ?zisinstance ?zrepr ?zstr ?zabs ?zenumerate ?zzip ?zbool
    (case gB_ => k_is)
    (case lB_ => k_is)
    (case cB_ => k_is)
    (case kB_ => k_is)
    (case wB__steps => k_is)
    (case wB__switches => k_is)
    (case gS_ => k_is)
    (case lS_ => k_is)
    (case cS_ => k_is)
    (case kS_ => k_is)
    (case gD_ => k_is)
    (case lD_ => k_is)
    (case cD_ => k_is)
    (case kD_ => k_is)
    (case gDr => k_is)
    (case lDr => k_is)
    (case cDr => k_is)
    (case kDr => k_is)
    (case gP_ => k_is)
    (case lP_ => k_is)
    (case cP_ => k_is)
    (case kP_ => k_is)
    (case gF_ => k_is)
    (case lF_ => k_is)
    (case cF_ => k_is)
    (case kF_ => k_is)
    (case gLaw => k_is)
    (case lLaw => k_is)
    (case cLaw => k_is)
    (case kLaw => k_is)
    (case zint => k_is)
    (case zlen => k_is)
    (case zrange => k_is)
    (case ztuple => k_is)
    (case zlist => k_is)
    (case zmax => k_is)
    (case zmin => k_is)
    (case zsum => k_is)
    (case zisinstance => k_is)
    (case zrepr => k_is)
    (case zstr => k_is)
    (case zabs => k_is)
    (case zenumerate => k_is)
    (case zzip => k_is)
    (case zbool => k_is)

