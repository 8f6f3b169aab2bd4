import PyProof.Rows.All
import Wide.All
import OpenK.AllK
import Wide.FinOn
import HandS.ForMost
import HandS.ForExc
import HandS.TupAny
import PyProof.ListRange
import PyProof.RowDictHeap
import KE.KTupSum
import OpenK.KOps
import HandS.Dict
import HandS.IsInst
import HandS.Zip
import HandS.Defaults
import HandS.MakeKwOnly
import KE.GoesEnumKw
import KE.GoesMore
import HandS.Iter
import HandS.OwnEq
import PySem.Challenge.RW_rateplan_k14_whole_great_roads
set_option Elab.async false
set_option linter.all false
set_option maxRecDepth 100000
set_option maxHeartbeats 4000000
/-! A second layer over the hand layer: values as data (D), the changing objects as a list (O), numbered; no address, no heap is seen by what stands above. -/
namespace Rp
open PySem PySem.Spec PyProof.Rows L2
/-- a value: a scalar, a tuple of values, the number of a changing object, a list of whole numbers that is only read -/
inductive D where
  | v (x : V)
  | tup (ds : List D)
  | ptr (i : Nat)
  | scr (ns : List Int)
/-- a changing object -/
inductive O where
  | lst (ds : List D)
  | ins (C : Addr) (fs : List (Str × D))
  | dK (kvs : List (Key × D))
abbrev OH := List O
abbrev SH := List (Option D)
abbrev KH := D → OH → Prop
def SqF (K : PySem.W.Frag) (H : Hp) (a : Addr) (xs : List V) : Prop :=
  (∃ o, H a = some (.frz o (.lst xs))) ∨ ∃ (o : Obj) (its : Array Value) (n : Nat), K.lookup a = some o ∧ o.cls = .type "list" ∧ o.dict = none ∧ o.data = .seq its n ∧ its.size ≤ sizeLine ∧ Vals xs its.toList
theorem SqF.l {K : PySem.W.Frag} {H : Hp} {a : Addr} {xs : List V} (h : SqF K H a xs) : SqL K H a xs := h.imp (fun h => .inr h) fun h => h
mutual
inductive RD (K : PySem.W.Frag) (θ : List Addr) (H : Hp) : V → D → Prop
  | v (x : V) : RD K θ H x (.v x)
  | ptr {i : Nat} {a : Addr} (h : θ[i]? = some a) : RD K θ H (.ref a) (.ptr i)
  | tup {a : Addr} {xs : List V} {ds : List D} (h : SqT K H a xs) (r : RDs K θ H xs ds) : RD K θ H (.ref a) (.tup ds)
  | scr {a : Addr} {ns : List Int} (h : SqF K H a (ns.map V.int)) : RD K θ H (.ref a) (.scr ns)
inductive RDs (K : PySem.W.Frag) (θ : List Addr) (H : Hp) : List V → List D → Prop
  | nil : RDs K θ H [] []
  | cons {x : V} {d : D} {xs : List V} {ds : List D} (h : RD K θ H x d) (t : RDs K θ H xs ds) : RDs K θ H (x :: xs) (d :: ds)
end
/-- tuples and what is only read stay -/
structure Stab (H H' : Hp) : Prop where
  tup : ∀ a xs, H a = some (.tup xs) → H' a = some (.tup xs)
  frz : ∀ a o u, H a = some (.frz o u) → H' a = some (.frz o u)
theorem Stab.refl (H : Hp) : Stab H H := ⟨fun _ _ h => h, fun _ _ _ h => h⟩
theorem Stab.trans {H H1 H2 : Hp} (a : Stab H H1) (b : Stab H1 H2) : Stab H H2 := ⟨fun _ _ h => b.tup _ _ (a.tup _ _ h), fun _ _ _ h => b.frz _ _ _ (a.frz _ _ _ h)⟩
theorem SqT.stab {K : PySem.W.Frag} {H H' : Hp} {a : Addr} {xs : List V} (h : SqT K H a xs) (s : Stab H H') : SqT K H' a xs := by
  rcases h with (h | ⟨o, h⟩) | h
  · exact .inl (.inl (s.tup _ _ h))
  · exact .inl (.inr ⟨o, s.frz _ _ _ h⟩)
  · exact .inr h
theorem SqF.stab {K : PySem.W.Frag} {H H' : Hp} {a : Addr} {xs : List V} (h : SqF K H a xs) (s : Stab H H') : SqF K H' a xs := by
  rcases h with ⟨o, h⟩ | h
  · exact .inl ⟨o, s.frz _ _ _ h⟩
  · exact .inr h
mutual
theorem RD.stab {K : PySem.W.Frag} {θ t : List Addr} {H H' : Hp} (s : Stab H H') : ∀ {v : V} {d : D}, RD K θ H v d → RD K (θ ++ t) H' v d
  | _, _, .v x => .v x
  | _, _, .ptr h => .ptr (by rw [List.getElem?_append_left (List.getElem?_eq_some_iff.mp h).1]; exact h)
  | _, _, .tup h r => .tup (SqT.stab h s) (RDs.stab s r)
  | _, _, .scr h => .scr (SqF.stab h s)
theorem RDs.stab {K : PySem.W.Frag} {θ t : List Addr} {H H' : Hp} (s : Stab H H') : ∀ {vs : List V} {ds : List D}, RDs K θ H vs ds → RDs K (θ ++ t) H' vs ds
  | _, _, .nil => .nil
  | _, _, .cons h r => .cons (RD.stab s h) (RDs.stab s r)
end
/-- the objects θ have become θ', the heap H H' -/
structure Ext (θ : List Addr) (H : Hp) (θ' : List Addr) (H' : Hp) : Prop where
  pre : ∃ t, θ' = θ ++ t
  new : ∀ a ∈ θ', a ∈ θ ∨ H a = none
  stay : ∀ b o, b ∉ θ → H b = some o → H' b = some o
  stab : Stab H H'
theorem Ext.refl (θ : List Addr) (H : Hp) : Ext θ H θ H := ⟨⟨[], by rw [List.append_nil]⟩, fun _ h => .inl h, fun _ _ _ h => h, .refl H⟩
theorem Ext.trans {θ θ1 θ2 : List Addr} {H H1 H2 : Hp} (a : Ext θ H θ1 H1) (b : Ext θ1 H1 θ2 H2) : Ext θ H θ2 H2 := by
  obtain ⟨t, e⟩ := a.pre
  obtain ⟨u, e'⟩ := b.pre
  refine ⟨⟨t ++ u, by rw [e', e, List.append_assoc]⟩, fun x hx => ?_, fun x o nx h => ?_, a.stab.trans b.stab⟩
  · rcases b.new x hx with h | h
    · exact a.new x h
    · by_cases q : x ∈ θ
      · exact .inl q
      · cases e : H x with
        | none => exact .inr rfl
        | some o => have := a.stay x o q e; rw [h] at this; cases this
  · refine b.stay x o (fun h1 => ?_) (a.stay x o nx h)
    rcases a.new x h1 with q | q
    · exact nx q
    · rw [h] at q; cases q
theorem RD.ext {K : PySem.W.Frag} {θ θ' : List Addr} {H H' : Hp} {v : V} {d : D} (h : RD K θ H v d) (e : Ext θ H θ' H') : RD K θ' H' v d := by
  obtain ⟨t, rfl⟩ := e.pre
  exact h.stab e.stab
theorem RDs.ext {K : PySem.W.Frag} {θ θ' : List Addr} {H H' : Hp} {v : List V} {d : List D} (h : RDs K θ H v d) (e : Ext θ H θ' H') : RDs K θ' H' v d := by
  obtain ⟨t, rfl⟩ := e.pre
  exact h.stab e.stab
theorem RDs.length {K : PySem.W.Frag} {θ : List Addr} {H : Hp} : ∀ {vs : List V} {ds : List D}, RDs K θ H vs ds → vs.length = ds.length
  | _, _, .nil => rfl
  | _, _, .cons _ t => by rw [List.length_cons, List.length_cons, RDs.length t]
theorem RDs.get {K : PySem.W.Frag} {θ : List Addr} {H : Hp} : ∀ {vs : List V} {ds : List D} {i : Nat} {d : D}, RDs K θ H vs ds → ds[i]? = some d → ∃ v, vs[i]? = some v ∧ RD K θ H v d
  | _, _, 0, _, .cons h _, e => by simp at e; subst e; exact ⟨_, rfl, h⟩
  | _, _, i + 1, _, .cons _ t, e => by
    obtain ⟨v, h1, h2⟩ := RDs.get (i := i) t (by simpa using e)
    exact ⟨v, by simpa using h1, h2⟩
theorem RDs.get' {K : PySem.W.Frag} {θ : List Addr} {H : Hp} : ∀ {vs : List V} {ds : List D} {i : Nat} {v : V}, RDs K θ H vs ds → vs[i]? = some v → ∃ d, ds[i]? = some d ∧ RD K θ H v d
  | _, _, 0, _, .cons h _, e => by simp at e; subst e; exact ⟨_, rfl, h⟩
  | _, _, i + 1, _, .cons _ t, e => by
    obtain ⟨v, h1, h2⟩ := RDs.get' (i := i) t (by simpa using e)
    exact ⟨v, by simpa using h1, h2⟩
theorem RDs.append {K : PySem.W.Frag} {θ : List Addr} {H : Hp} : ∀ {vs vs' : List V} {ds ds' : List D}, RDs K θ H vs ds → RDs K θ H vs' ds' → RDs K θ H (vs ++ vs') (ds ++ ds')
  | _, _, _, _, .nil, h => h
  | _, _, _, _, .cons a t, h => .cons a (RDs.append t h)
theorem RDs.take {K : PySem.W.Frag} {θ : List Addr} {H : Hp} : ∀ {vs : List V} {ds : List D} (n : Nat), RDs K θ H vs ds → RDs K θ H (vs.take n) (ds.take n)
  | _, _, 0, _ => .nil
  | _, _, _ + 1, .nil => .nil
  | _, _, n + 1, .cons a t => .cons a (RDs.take n t)
theorem RDs.drop {K : PySem.W.Frag} {θ : List Addr} {H : Hp} : ∀ {vs : List V} {ds : List D} (n : Nat), RDs K θ H vs ds → RDs K θ H (vs.drop n) (ds.drop n)
  | _, _, 0, h => h
  | _, _, _ + 1, .nil => .nil
  | _, _, n + 1, .cons _ t => RDs.drop n t
theorem RDs.reverse {K : PySem.W.Frag} {θ : List Addr} {H : Hp} : ∀ {vs : List V} {ds : List D}, RDs K θ H vs ds → RDs K θ H vs.reverse ds.reverse
  | _, _, .nil => .nil
  | _, _, .cons a t => by rw [List.reverse_cons, List.reverse_cons]; exact RDs.append (RDs.reverse t) (.cons a .nil)
theorem RDs.set {K : PySem.W.Frag} {θ : List Addr} {H : Hp} {v : V} {d : D} (r : RD K θ H v d) : ∀ {vs : List V} {ds : List D} (i : Nat), RDs K θ H vs ds → RDs K θ H (vs.set i v) (ds.set i d)
  | _, _, _, .nil => .nil
  | _, _, 0, .cons _ t => .cons r t
  | _, _, i + 1, .cons a t => .cons a (RDs.set r i t)
theorem RDs.replicate {K : PySem.W.Frag} {θ : List Addr} {H : Hp} {vs : List V} {ds : List D} (h : RDs K θ H vs ds) : ∀ n : Nat, RDs K θ H (List.replicate n vs).flatten (List.replicate n ds).flatten
  | 0 => .nil
  | n + 1 => by rw [List.replicate_succ, List.replicate_succ, List.flatten_cons, List.flatten_cons]; exact RDs.append h (RDs.replicate h n)
theorem RDs.eraseIdx {K : PySem.W.Frag} {θ : List Addr} {H : Hp} : ∀ {vs : List V} {ds : List D} (n : Nat), RDs K θ H vs ds → RDs K θ H (vs.eraseIdx n) (ds.eraseIdx n)
  | _, _, _, .nil => by simp; exact .nil
  | _, _, 0, .cons a t => t
  | _, _, n + 1, .cons a t => .cons a (RDs.eraseIdx n t)
theorem RDs.dropLast {K : PySem.W.Frag} {θ : List Addr} {H : Hp} {vs : List V} {ds : List D} (h : RDs K θ H vs ds) : RDs K θ H vs.dropLast ds.dropLast := by
  rw [List.dropLast_eq_take, List.dropLast_eq_take, h.length]
  exact h.take _
theorem RDs.scal {K : PySem.W.Frag} {θ : List Addr} {H : Hp} {α : Type} (f : α → V) : ∀ xs : List α, RDs K θ H (xs.map f) (xs.map fun x => D.v (f x))
  | [] => .nil
  | x :: xs => .cons (.v _) (RDs.scal f xs)
/-- the values of scalars -/
theorem RDs.of_scal {K : PySem.W.Frag} {θ : List Addr} {H : Hp} {α : Type} (f : α → V) : ∀ {vs : List V} {xs : List α}, RDs K θ H vs (xs.map fun x => D.v (f x)) → vs = xs.map f
  | _, [], .nil => rfl
  | _, _ :: _, .cons (.v _) t => by rw [RDs.of_scal f t]; rfl

inductive RF (K : PySem.W.Frag) (θ : List Addr) (H : Hp) {κ : Type} : List (κ × V) → List (κ × D) → Prop
  | nil : RF K θ H [] []
  | cons {n : κ} {x : V} {d : D} {xs : List (κ × V)} {ds : List (κ × D)} (h : RD K θ H x d) (t : RF K θ H xs ds) : RF K θ H ((n, x) :: xs) ((n, d) :: ds)
theorem RF.stab {K : PySem.W.Frag} {θ t : List Addr} {H H' : Hp} {κ : Type} (s : Stab H H') : ∀ {vs : List (κ × V)} {ds : List (κ × D)}, RF K θ H vs ds → RF K (θ ++ t) H' vs ds
  | _, _, .nil => .nil
  | _, _, .cons h r => .cons (h.stab s) (RF.stab s r)
theorem RF.length {K : PySem.W.Frag} {θ : List Addr} {H : Hp} {κ : Type} : ∀ {vs : List (κ × V)} {ds : List (κ × D)}, RF K θ H vs ds → vs.length = ds.length
  | _, _, .nil => rfl
  | _, _, .cons _ t => by rw [List.length_cons, List.length_cons, RF.length t]
theorem RF.lookup {K : PySem.W.Frag} {θ : List Addr} {H : Hp} {f : Str} : ∀ {vs : List (Str × V)} {ds : List (Str × D)} {d : D}, RF K θ H vs ds → ds.lookup f = some d → ∃ v, vs.lookup f = some v ∧ RD K θ H v d
  | _, _, d, .cons (n := n) (x := x) (d := e) (xs := xs) (ds := ds) h t, q => by
    rw [List.lookup_cons] at q ⊢
    cases c : f == n with
    | true => simp only [c] at q ⊢; cases q; exact ⟨x, rfl, h⟩
    | false => simp only [c] at q ⊢; exact RF.lookup t q
theorem RF.lookup_none {K : PySem.W.Frag} {θ : List Addr} {H : Hp} {f : Str} : ∀ {vs : List (Str × V)} {ds : List (Str × D)}, RF K θ H vs ds → ds.lookup f = none → vs.lookup f = none
  | _, _, .nil, _ => rfl
  | _, _, .cons (n := n) h t, q => by
    rw [List.lookup_cons] at q ⊢
    cases c : f == n with
    | true => simp only [c] at q; cases q
    | false => simp only [c] at q ⊢; exact RF.lookup_none t q
def putD (f : Str) (v : D) : List (Str × D) → List (Str × D)
  | [] => [(f, v)]
  | (g, w) :: r => if g = f then (g, v) :: r else (g, w) :: putD f v r
def RO (K : PySem.W.Frag) (θ : List Addr) (H : Hp) (a : Addr) : O → Prop
  | .lst ds => ∃ xs, H a = some (.lst xs) ∧ RDs K θ H xs ds
  | .ins C fs => ∃ dx xs, H a = some (.ins C dx xs) ∧ H dx = some (.own a) ∧ RF K θ H xs fs
  | .dK kvs => ∃ xs, H a = some (.dK xs) ∧ RF K θ H xs kvs
structure RA (K : PySem.W.Frag) (θ : List Addr) (H : Hp) (A : OH) : Prop where
  len : θ.length = A.length
  nd : θ.Nodup
  ok : ∀ (i : Nat) (a : Addr) (o : O), θ[i]? = some a → A[i]? = some o → RO K θ H a o
theorem RO.mut {K : PySem.W.Frag} {θ : List Addr} {H : Hp} {a : Addr} {o : O} (h : RO K θ H a o) : ∃ u, H a = some u ∧ Mut (some u) := by
  cases o with
  | lst ds => obtain ⟨xs, h, _⟩ := h; exact ⟨_, h, True.intro⟩
  | ins C fs => obtain ⟨dx, xs, h, _⟩ := h; exact ⟨_, h, True.intro⟩
  | dK kvs => obtain ⟨xs, h, _⟩ := h; exact ⟨_, h, True.intro⟩
theorem RA.mut {K : PySem.W.Frag} {θ : List Addr} {H : Hp} {A : OH} (r : RA K θ H A) {a : Addr} (h : a ∈ θ) : ∃ u, H a = some u ∧ Mut (some u) := by
  obtain ⟨i, hi, e⟩ := List.mem_iff_getElem.mp h
  have h1 : θ[i]? = some a := by rw [List.getElem?_eq_getElem hi, e]
  have hi' : i < A.length := by rw [← r.len]; exact hi
  have h2 : A[i]? = some A[i] := List.getElem?_eq_getElem hi'
  exact (r.ok i a _ h1 h2).mut
theorem RA.at {K : PySem.W.Frag} {θ : List Addr} {H : Hp} {A : OH} (r : RA K θ H A) {i : Nat} {o : O} (h : A[i]? = some o) : ∃ a, θ[i]? = some a ∧ RO K θ H a o := by
  have hi : i < θ.length := by rw [r.len]; exact (List.getElem?_eq_some_iff.mp h).1
  exact ⟨θ[i], List.getElem?_eq_getElem hi, r.ok i _ o (List.getElem?_eq_getElem hi) h⟩
theorem RO.stab {K : PySem.W.Frag} {θ t : List Addr} {H H' : Hp} {a : Addr} {o : O} (h : RO K θ H a o) (s : Stab H H') (ha : H' a = H a) (hd : ∀ dx, H dx = some (.own a) → H' dx = some (.own a)) : RO K (θ ++ t) H' a o := by
  cases o with
  | lst ds => obtain ⟨xs, h, r⟩ := h; exact ⟨xs, by rw [ha]; exact h, r.stab s⟩
  | ins C fs => obtain ⟨dx, xs, h, d, r⟩ := h; exact ⟨dx, xs, by rw [ha]; exact h, hd dx d, r.stab s⟩
  | dK kvs => obtain ⟨xs, h, r⟩ := h; exact ⟨xs, by rw [ha]; exact h, r.stab s⟩
/-- a new thing that is not numbered -/
theorem stab_new {H : Hp} {p : Addr} {o : HO} (h : H p = none) : Stab H (upd H p o) :=
  ⟨fun a xs e => by rw [upd_ne (ne_of_none e h)]; exact e, fun a o u e => by rw [upd_ne (ne_of_none e h)]; exact e⟩
theorem Ext.new0 {θ : List Addr} {H : Hp} {p : Addr} {o : HO} (h : H p = none) : Ext θ H θ (upd H p o) :=
  ⟨⟨[], by rw [List.append_nil]⟩, fun _ h => .inl h, fun b u _ e => by rw [upd_ne (ne_of_none e h)]; exact e, stab_new h⟩
theorem RA.new0 {K : PySem.W.Frag} {θ : List Addr} {H : Hp} {A : OH} {p : Addr} {u : HO} (r : RA K θ H A) (h : H p = none) : RA K θ (upd H p u) A :=
  ⟨r.len, r.nd, fun i a o h1 h2 => by
    have q := (r.ok i a o h1 h2)
    obtain ⟨u', hu, _⟩ := q.mut
    have := q.stab (t := []) (stab_new (o := u) h) (by rw [upd_ne (ne_of_none hu h)]) fun dx e => by rw [upd_ne (ne_of_none e h)]; exact e
    rw [List.append_nil] at this
    exact this⟩
theorem Ext.same {θ : List Addr} {H H' : Hp} (s : Same H H') : Ext θ H θ H' :=
  ⟨⟨[], by rw [List.append_nil]⟩, fun _ h => .inl h, fun b u _ e => s _ _ e, fun _ _ e => s _ _ e, fun _ _ _ e => s _ _ e⟩
theorem RA.same {K : PySem.W.Frag} {θ : List Addr} {H H' : Hp} {A : OH} (r : RA K θ H A) (s : Same H H') : RA K θ H' A :=
  ⟨r.len, r.nd, fun i a o h1 h2 => by
    have q := (r.ok i a o h1 h2)
    obtain ⟨u', hu, _⟩ := q.mut
    have := q.stab (t := []) (Ext.same (θ := θ) s).stab (by rw [hu, s _ _ hu]) fun dx e => s _ _ e
    rw [List.append_nil] at this
    exact this⟩
/-- a new object, numbered -/
theorem RA.add {K : PySem.W.Frag} {θ : List Addr} {H H' : Hp} {A : OH} {p : Addr} {o : O} (r : RA K θ H A) (h : H p = none) (s : Same H H') (new : RO K (θ ++ [p]) H' p o) : RA K (θ ++ [p]) H' (A ++ [o]) := by
  refine ⟨by rw [List.length_append, List.length_append, r.len]; rfl, ?_, fun i a o' h1 h2 => ?_⟩
  · rw [List.nodup_append]
    refine ⟨r.nd, by simp, fun a ha b hb => ?_⟩
    rw [List.mem_singleton.mp hb]
    obtain ⟨u, hu, _⟩ := r.mut ha
    exact ne_of_none hu h
  · by_cases hi : i < θ.length
    · rw [List.getElem?_append_left hi] at h1
      rw [List.getElem?_append_left (by rw [← r.len]; exact hi)] at h2
      have q := r.ok i a o' h1 h2
      obtain ⟨u', hu, _⟩ := q.mut
      exact q.stab (Ext.same (θ := θ) s).stab (by rw [hu, s _ _ hu]) fun dx e => s _ _ e
    · rw [List.getElem?_append_right (by omega)] at h1
      rw [List.getElem?_append_right (by rw [← r.len]; omega)] at h2
      have e : i - θ.length = 0 := by
        have := (List.getElem?_eq_some_iff.mp h1).1
        simp at this
        omega
      rw [e] at h1
      rw [← r.len, e] at h2
      simp at h1 h2
      subst h1 h2
      exact new
theorem Ext.add {θ : List Addr} {H H' : Hp} {p : Addr} (h : H p = none) (s : Same H H') : Ext θ H (θ ++ [p]) H' :=
  ⟨⟨[p], rfl⟩, fun a ha => by
    rcases List.mem_append.mp ha with q | q
    · exact .inl q
    · rw [List.mem_singleton.mp q]; exact .inr h, fun b u _ e => s _ _ e, fun _ _ e => s _ _ e, fun _ _ _ e => s _ _ e⟩
/-- a numbered object is written -/
theorem stab_put {H : Hp} {a : Addr} {u : HO} (mu : Mut (H a)) : Stab H (upd H a u) :=
  ⟨fun b xs e => by rw [upd_ne fun z => by subst z; rw [e] at mu; exact mu]; exact e, fun b o w e => by rw [upd_ne fun z => by subst z; rw [e] at mu; exact mu]; exact e⟩
theorem Ext.put {θ : List Addr} {H : Hp} {a : Addr} {u : HO} (h : a ∈ θ) (mu : Mut (H a)) : Ext θ H θ (upd H a u) :=
  ⟨⟨[], by rw [List.append_nil]⟩, fun _ h => .inl h, fun b w nb e => by rw [upd_ne fun z => nb (by rw [z]; exact h)]; exact e, stab_put mu⟩
theorem RA.put {K : PySem.W.Frag} {θ : List Addr} {H : Hp} {A : OH} {i : Nat} {a : Addr} {u : HO} {o o' : O} (r : RA K θ H A) (h : θ[i]? = some a) (ho : A[i]? = some o) (mu : Mut (H a)) (new : RO K θ (upd H a u) a o') : RA K θ (upd H a u) (A.set i o') := by
  refine ⟨by rw [List.length_set]; exact r.len, r.nd, fun j b w h1 h2 => ?_⟩
  by_cases e : i = j
  · subst e
    rw [h] at h1
    cases h1
    rw [List.getElem?_set_self (List.getElem?_eq_some_iff.mp ho).1] at h2
    cases h2
    exact new
  · rw [List.getElem?_set_ne e] at h2
    have ne : b ≠ a := fun z => by
      subst z
      obtain ⟨hi, e1⟩ := List.getElem?_eq_some_iff.mp h
      obtain ⟨hj, e2⟩ := List.getElem?_eq_some_iff.mp h1
      exact e ((List.getElem_inj r.nd).mp (e1.trans e2.symm))
    have q := (r.ok j b w h1 h2).stab (t := []) (stab_put (u := u) mu) (by rw [upd_ne ne]) fun dx e => by rw [upd_ne fun z => by subst z; rw [e] at mu; exact mu]; exact e
    rw [List.append_nil] at q
    exact q
theorem RD.stab0 {K : PySem.W.Frag} {θ : List Addr} {H H' : Hp} {v : V} {d : D} (h : RD K θ H v d) (s : Stab H H') : RD K θ H' v d := by
  have := h.stab (t := []) s
  rw [List.append_nil] at this
  exact this
theorem RDs.stab0 {K : PySem.W.Frag} {θ : List Addr} {H H' : Hp} {v : List V} {d : List D} (h : RDs K θ H v d) (s : Stab H H') : RDs K θ H' v d := by
  have := h.stab (t := []) s
  rw [List.append_nil] at this
  exact this
theorem RF.stab0 {κ : Type} {K : PySem.W.Frag} {θ : List Addr} {H H' : Hp} {v : List (κ × V)} {d : List (κ × D)} (h : RF K θ H v d) (s : Stab H H') : RF K θ H' v d := by
  have := h.stab (t := []) s
  rw [List.append_nil] at this
  exact this
/-! ### slots -/
inductive RV (K : PySem.W.Frag) (θ : List Addr) (H : Hp) : Option V → Option D → Prop
  | none : RV K θ H none none
  | some {x : V} {d : D} (h : RD K θ H x d) : RV K θ H (some x) (some d)
inductive RS (K : PySem.W.Frag) (θ : List Addr) (H : Hp) : L2.St → SH → Prop
  | nil : RS K θ H [] []
  | cons {x : Option V} {d : Option D} {xs : L2.St} {ds : SH} (h : RV K θ H x d) (t : RS K θ H xs ds) : RS K θ H (x :: xs) (d :: ds)
theorem RV.ext {K : PySem.W.Frag} {θ θ' : List Addr} {H H' : Hp} {x : Option V} {d : Option D} (h : RV K θ H x d) (e : Ext θ H θ' H') : RV K θ' H' x d := by
  cases h with
  | none => exact .none
  | some h => exact .some (h.ext e)
theorem RS.ext {K : PySem.W.Frag} {θ θ' : List Addr} {H H' : Hp} (e : Ext θ H θ' H') : ∀ {σ : L2.St} {σh : SH}, RS K θ H σ σh → RS K θ' H' σ σh
  | _, _, .nil => .nil
  | _, _, .cons h t => .cons (h.ext e) (RS.ext e t)
theorem RS.get {K : PySem.W.Frag} {θ : List Addr} {H : Hp} : ∀ {σ : L2.St} {σh : SH} {i : Nat} {d : D}, RS K θ H σ σh → σh[i]? = some (some d) → ∃ v, σ[i]? = some (some v) ∧ RD K θ H v d
  | _, _, 0, _, .cons h _, e => by
    simp at e
    subst e
    cases h with
    | some h => exact ⟨_, rfl, h⟩
  | _, _, i + 1, _, .cons _ t, e => by
    obtain ⟨v, h1, h2⟩ := RS.get (i := i) t (by simpa using e)
    exact ⟨v, by simpa using h1, h2⟩
theorem RS.set {K : PySem.W.Frag} {θ : List Addr} {H : Hp} {v : Option V} {d : Option D} (r : RV K θ H v d) : ∀ {σ : L2.St} {σh : SH} (i : Nat), RS K θ H σ σh → RS K θ H (σ.set i v) (σh.set i d)
  | _, _, _, .nil => .nil
  | _, _, 0, .cons _ t => .cons r t
  | _, _, i + 1, .cons a t => .cons a (RS.set r i t)
theorem RS.append {K : PySem.W.Frag} {θ : List Addr} {H : Hp} : ∀ {σ σ' : L2.St} {ds ds' : SH}, RS K θ H σ ds → RS K θ H σ' ds' → RS K θ H (σ ++ σ') (ds ++ ds')
  | _, _, _, _, .nil, h => h
  | _, _, _, _, .cons a t, h => .cons a (RS.append t h)
theorem RS.of {K : PySem.W.Frag} {θ : List Addr} {H : Hp} : ∀ {vs : List V} {ds : List D}, RDs K θ H vs ds → RS K θ H (vs.map some) (ds.map some)
  | _, _, .nil => .nil
  | _, _, .cons h t => .cons (.some h) (RS.of t)
theorem RS.nones {K : PySem.W.Frag} {θ : List Addr} {H : Hp} : ∀ n : Nat, RS K θ H (List.replicate n none) (List.replicate n none)
  | 0 => .nil
  | n + 1 => .cons .none (RS.nones n)
def startH (n : Nat) (ds : List D) : SH := ds.map some ++ List.replicate (n - ds.length) none
theorem RS.start {K : PySem.W.Frag} {θ : List Addr} {H : Hp} {N : List Str} {vs : List V} {ds : List D} (h : RDs K θ H vs ds) : RS K θ H (L2.start N vs) (startH N.length ds) := by
  unfold L2.start startH
  rw [h.length]
  exact RS.append (.of h) (.nones _)
def wipeH (σ : SH) : List Nat → SH
  | [] => σ
  | v :: vs => (wipeH σ vs).set v none
theorem RS.wipe {K : PySem.W.Frag} {θ : List Addr} {H : Hp} {σ : L2.St} {σh : SH} (h : RS K θ H σ σh) : ∀ vs : List Nat, RS K θ H (L2.wipe σ vs) (wipeH σh vs)
  | [] => h
  | v :: vs => RS.set .none v (RS.wipe h vs)
end Rp

/-! Expressions over data. -/
namespace Rp
open PySem PySem.Spec PyProof.Rows L2
abbrev TEh := SH → OH → KH → Prop
abbrev TTh := SH → OH → (Bool → OH → Prop) → Prop
abbrev TAh := SH → OH → (List D → OH → Prop) → Prop
abbrev TOh := SH → OH → (Option Int → OH → Prop) → Prop
/-- what is wanted of a value: by data -/
def Kt (K : PySem.W.Frag) (θ : List Addr) (H : Hp) (Q : VK) (Qh : KH) : Prop := ∀ θ' H' A' v d, Ext θ H θ' H' → RA K θ' H' A' → RD K θ' H' v d → Qh d A' → Q v H'
def lift (K : PySem.W.Frag) (t : TEh) : TE := fun σ H Q => ∃ θ σh A Qh, RS K θ H σ σh ∧ RA K θ H A ∧ t σh A Qh ∧ Kt K θ H Q Qh
def liftT (K : PySem.W.Frag) (t : TTh) : TT := fun σ H Q => ∃ θ σh A Qh, RS K θ H σ σh ∧ RA K θ H A ∧ t σh A Qh ∧ ∀ θ' H' A' b, Ext θ H θ' H' → RA K θ' H' A' → Qh b A' → Q b H'
def liftA (K : PySem.W.Frag) (t : TAh) : TA := fun σ H Q => ∃ θ σh A Qh, RS K θ H σ σh ∧ RA K θ H A ∧ t σh A Qh ∧ ∀ θ' H' A' vs ds, Ext θ H θ' H' → RA K θ' H' A' → RDs K θ' H' vs ds → Qh ds A' → Q vs H'
def liftO (K : PySem.W.Frag) (t : TOh) : TO := fun σ H Q => ∃ θ σh A Qh, RS K θ H σ σh ∧ RA K θ H A ∧ t σh A Qh ∧ ∀ θ' H' A' o, Ext θ H θ' H' → RA K θ' H' A' → Qh o A' → Q o H'
section
variable {X : Cx} {e : Expr} {t t' : TE}
theorem _root_.L2.PE.imp (h : PE X e t) (f : ∀ σ H Q, t' σ H Q → t σ H Q) : PE X e t' := ⟨fun pins s σ H Q I w => h.run pins s σ H Q I (f σ H Q w)⟩
theorem _root_.L2.PT.imp {t t' : TT} (h : PT X e t) (f : ∀ σ H Q, t' σ H Q → t σ H Q) : PT X e t' := ⟨fun pins s σ H Q I w => h.run pins s σ H Q I (f σ H Q w)⟩
theorem _root_.L2.PW.imp {t t' : TT} (h : PW X e t) (f : ∀ σ H Q, t' σ H Q → t σ H Q) : PW X e t' := ⟨fun whole pins s σ H Q I w => h.run whole pins s σ H Q I (f σ H Q w)⟩
theorem _root_.L2.PA.imp {es : List Expr} {t t' : TA} (h : PA X es t) (f : ∀ σ H Q, t' σ H Q → t σ H Q) : PA X es t' := ⟨fun pos pins s σ H Q I w => h.run pos pins s σ H Q I (f σ H Q w)⟩
theorem _root_.L2.PO.imp {eo : Option Expr} {t t' : TO} (h : PO X eo t) (f : ∀ σ H Q, t' σ H Q → t σ H Q) : PO X eo t' := ⟨fun pins s σ H Q I w => h.run pins s σ H Q I (f σ H Q w)⟩
end
theorem Kt.here {K : PySem.W.Frag} {θ : List Addr} {H : Hp} {A : OH} {Q : VK} {Qh : KH} {v : V} {d : D} (k : Kt K θ H Q Qh) (ra : RA K θ H A) (r : RD K θ H v d) (q : Qh d A) : Q v H := k _ _ _ _ _ (.refl _ _) ra r q
theorem Kt.ext {K : PySem.W.Frag} {θ θ' : List Addr} {H H' : Hp} {Q : VK} {Qh : KH} (k : Kt K θ H Q Qh) (e : Ext θ H θ' H') : Kt K θ' H' Q Qh := fun _ _ _ _ _ e' ra r q => k _ _ _ _ _ (e.trans e') ra r q
/-- a new object is numbered -/
structure New (A : OH) (k : Nat) (o : O) (A' : OH) : Prop where
  eq : k = A.length
  eq' : A' = A ++ [o]
theorem New.get {A : OH} {k : Nat} {o : O} {A' : OH} (n : New A k o A') : A'[k]? = some o := by
  rw [n.eq', n.eq]; simp
theorem New.old {A : OH} {k : Nat} {o : O} {A' : OH} (n : New A k o A') {i : Nat} {u : O} (h : A[i]? = some u) : A'[i]? = some u := by
  rw [n.eq', List.getElem?_append_left (List.getElem?_eq_some_iff.mp h).1]; exact h
theorem New.ne {A : OH} {k : Nat} {o : O} {A' : OH} (n : New A k o A') {i : Nat} {u : O} (h : A[i]? = some u) : i ≠ k := by
  have := (List.getElem?_eq_some_iff.mp h).1
  have := n.eq
  omega
structure Put (A : OH) (k : Nat) (o : O) (A' : OH) : Prop where
  lt : k < A.length
  eq' : A' = A.set k o
theorem Put.get {A : OH} {k : Nat} {o : O} {A' : OH} (n : Put A k o A') : A'[k]? = some o := by
  rw [n.eq', List.getElem?_set_self n.lt]
theorem Put.old {A : OH} {k : Nat} {o : O} {A' : OH} (n : Put A k o A') {i : Nat} {u : O} (hi : i ≠ k) (h : A[i]? = some u) : A'[i]? = some u := by
  rw [n.eq', List.getElem?_set_ne (Ne.symm hi)]; exact h
def NewQ (A : OH) (o : O) (Q : KH) : Prop := ∀ k A', New A k o A' → Q (.ptr k) A'
def PutQ (A : OH) (k : Nat) (o : O) (Q : OH → Prop) : Prop := ∀ A', Put A k o A' → Q A'
section
variable {K : PySem.W.Frag} {θ : List Addr} {H : Hp} {A : OH} {Q : VK} {Qh : KH} {xs : List V} {ds : List D} {p : Addr}
theorem Kt.lst (k : Kt K θ H Q Qh) (ra : RA K θ H A) (r : RDs K θ H xs ds) (h : NewQ A (.lst ds) Qh) (hp : H p = none) : Q (.ref p) (upd H p (.lst xs)) := by
  have s : Same H (upd H p (.lst xs)) := fun b u e => by rw [upd_ne (ne_of_none e hp)]; exact e
  refine k (θ ++ [p]) _ (A ++ [.lst ds]) _ (.ptr A.length) (.add hp s) (ra.add (o := .lst ds) hp s ⟨xs, upd_same, r.ext (.add hp s)⟩) (.ptr ?_) (h _ _ ⟨rfl, rfl⟩)
  rw [← ra.len]; simp
theorem Kt.tup (k : Kt K θ H Q Qh) (ra : RA K θ H A) (r : RDs K θ H xs ds) (h : Qh (.tup ds) A) (hp : H p = none) : Q (.ref p) (upd H p (.tup xs)) :=
  k θ _ A _ (.tup ds) (.new0 hp) (ra.new0 hp) (.tup (SqT.of upd_same) (r.stab0 (stab_new hp))) h
/-- a list that stands in θ is written -/
theorem RA.putL {i : Nat} {a : Addr} {ds' : List D} {ys : List V} (ra : RA K θ H A) (ha : θ[i]? = some a) (ho : A[i]? = some (.lst ds)) (r : RDs K θ H ys ds') : RA K θ (upd H a (.lst ys)) (A.set i (.lst ds')) ∧ Ext θ H θ (upd H a (.lst ys)) ∧ Put A i (.lst ds') (A.set i (.lst ds')) := by
  obtain ⟨xs, h, _⟩ := ra.ok i a _ ha ho
  have mu : Mut (H a) := by rw [h]; exact True.intro
  exact ⟨ra.put ha ho mu ⟨ys, upd_same, r.stab0 (stab_put mu)⟩, .put (List.mem_of_getElem? ha) mu, (List.getElem?_eq_some_iff.mp ho).1, rfl⟩
end
/-! ### names, constants -/
def getS (σ : SH) (i : Nat) (k : D → Prop) : Prop := match σ[i]? with | some (some d) => k d | _ => False
def hVar (i : Nat) : TEh := fun σ A Q => getS σ i fun d => Q d A
def hC (d : D) : TEh := fun _ A Q => Q d A
section
variable {X : Cx} {e a b c : Expr} {es : List Expr} {x : Str} {pos p p2 : Pos}
theorem getS_ok {K : PySem.W.Frag} {θ : List Addr} {H : Hp} {σ : L2.St} {σh : SH} {i : Nat} {k : D → Prop} (rs : RS K θ H σ σh) (h : getS σh i k) : ∃ v d, σ[i]? = some (some v) ∧ RD K θ H v d ∧ k d := by
  unfold getS at h
  split at h
  · rename_i d e
    obtain ⟨v, h1, h2⟩ := rs.get e
    exact ⟨v, d, h1, h2, h⟩
  · exact h.elim
theorem ph_var {i : Nat} (h : PE X (.Name x pos) (tVar i)) : PE X (.Name x pos) (lift X.K (hVar i)) := h.imp fun σ H Q ⟨θ, σh, A, Qh, rs, ra, w, k⟩ => by
  obtain ⟨v, d, h1, h2, h3⟩ := getS_ok rs w
  exact ⟨v, h1, k.here ra h2 h3⟩
theorem ph_c {v : V} (h : PE X e (tC v)) : PE X e (lift X.K (hC (.v v))) := h.imp fun σ H Q ⟨θ, σh, A, Qh, rs, ra, w, k⟩ => k.here ra (.v v) w
/-! ### argument lists, tuples, lists -/
def hNil : TAh := fun _ A Q => Q [] A
def hCons (t : TEh) (u : TAh) : TAh := fun σ A Q => t σ A fun d A1 => u σ A1 fun ds A2 => Q (d :: ds) A2
theorem pah_nil : PA X [] (liftA X.K hNil) := pa_nil.imp fun σ H Q ⟨θ, σh, A, Qh, rs, ra, w, k⟩ => k _ _ _ _ _ (.refl _ _) ra .nil w
theorem pah_cons {t : TEh} {u : TAh} (ha : PE X e (lift X.K t)) (hr : PA X es (liftA X.K u)) (hs : starEach (e :: es) X.env = (false, eval e X.env) :: starEach es X.env := by rfl) : PA X (e :: es) (liftA X.K (hCons t u)) :=
  (pa_cons ha hr hs).imp fun σ H Q ⟨θ, σh, A, Qh, rs, ra, w, k⟩ => ⟨θ, σh, A, _, rs, ra, w, fun θ1 H1 A1 v d e1 ra1 r1 w1 => ⟨θ1, σh, A1, _, rs.ext e1, ra1, w1, fun θ2 H2 A2 vs ds e2 ra2 r2 w2 =>
    k _ _ _ _ _ (e1.trans e2) ra2 (.cons (r1.ext e2) r2) w2⟩⟩
/-- few enough -/
def few (n : Nat) (p : Prop) : Prop := match Nat.ble n 100000 with | true => p | false => False
theorem few_ok {n : Nat} {p : Prop} (h : few n p) : n ≤ sizeLine ∧ p := by
  unfold few at h
  split at h
  · rename_i e
    have := Nat.le_of_ble_eq_true e
    have ez : sizeLine = 16777216 := sizeLine_eq
    exact ⟨by omega, h⟩
  · exact h.elim
theorem few_of {n : Nat} {p : Prop} (h : n ≤ 100000) (q : p) : few n p := by
  unfold few
  rw [Nat.ble_eq_true_of_le h]
  exact q
def hTup (t : TAh) : TEh := fun σ A Q => t σ A fun ds A1 => few ds.length (Q (.tup ds) A1)
def hLst (t : TAh) : TEh := fun σ A Q => t σ A fun ds A1 => few ds.length (NewQ A1 (.lst ds) Q)
theorem ph_tup {x1} {t : TAh} (h : PA X es (liftA X.K t)) : PE X (.Tuple es x1 pos) (lift X.K (hTup t)) :=
  (pe_tup h).imp fun σ H Q ⟨θ, σh, A, Qh, rs, ra, w, k⟩ => ⟨θ, σh, A, _, rs, ra, w, fun θ1 H1 A1 vs ds e1 ra1 r1 w1 => by
    obtain ⟨z, w1⟩ := few_ok w1
    exact ⟨by rw [r1.length]; exact z, fun p hp => (k.ext e1).tup ra1 r1 w1 hp⟩⟩
theorem ph_lst {t : TAh} (h : PA X es (liftA X.K t)) : PE X (.List es pos) (lift X.K (hLst t)) :=
  (pe_lst h).imp fun σ H Q ⟨θ, σh, A, Qh, rs, ra, w, k⟩ => ⟨θ, σh, A, _, rs, ra, w, fun θ1 H1 A1 vs ds e1 ra1 r1 w1 => by
    obtain ⟨z, w1⟩ := few_ok w1
    exact ⟨by rw [r1.length]; exact z, fun p hp => (k.ext e1).lst ra1 r1 w1 hp⟩⟩
/-! ### two-place operations -/
abbrev R2h := D → D → OH → KH → Prop
def hOp (r : R2h) (ta tb : TEh) : TEh := fun σ A Q => ta σ A fun x A1 => tb σ A1 fun y A2 => r x y A2 Q
def LR (K : PySem.W.Frag) (r : R2) (rh : R2h) : Prop := ∀ θ H A x y d e Q Qh, RD K θ H x d → RD K θ H y e → RA K θ H A → rh d e A Qh → Kt K θ H Q Qh → r x y H Q
theorem lift_op {K : PySem.W.Frag} {r : R2} {rh : R2h} {ta tb : TEh} (l : LR K r rh) (σ : L2.St) (H : Hp) (Q : VK) : lift K (hOp rh ta tb) σ H Q → tOp r (lift K ta) (lift K tb) σ H Q :=
  fun ⟨θ, σh, A, Qh, rs, ra, w, k⟩ => ⟨θ, σh, A, _, rs, ra, w, fun θ1 H1 A1 x d e1 ra1 r1 w1 => ⟨θ1, σh, A1, _, rs.ext e1, ra1, w1, fun θ2 H2 A2 y e e2 ra2 r2 w2 =>
    l _ _ _ _ _ _ _ _ _ (r1.ext e2) r2 ra2 w2 ((k.ext e1).ext e2)⟩⟩
theorem ph_op {op : Operator} {r : R2} {rh : R2h} {ta tb : TEh} (l : LR X.K r rh) (ho : OpR X (binaryOp op) r) (ha : PE X a (lift X.K ta)) (hb : PE X b (lift X.K tb)) : PE X (.BinOp a op b pos) (lift X.K (hOp rh ta tb)) :=
  (pe_op ho ha hb).imp (lift_op l)
theorem ph_cmp {op : CmpOp} {r : R2} {rh : R2h} {ta tb : TEh} (l : LR X.K r rh) (ho : OpR X (compareOp op) r) (ha : PE X a (lift X.K ta)) (hb : PE X b (lift X.K tb)) (hm : behindInMarks op b = false) : PE X (.Compare a [op] [b] pos) (lift X.K (hOp rh ta tb)) :=
  (pe_cmpR ho ha hb hm).imp (lift_op l)
theorem ph_ix {r : R2} {rh : R2h} {ta tb : TEh} (l : LR X.K r rh) (hr : IxR X r) (ha : PE X a (lift X.K ta)) (hb : PE X b (lift X.K tb)) (hs : PlainIx b) : PE X (.Subscript a b pos) (lift X.K (hOp rh ta tb)) :=
  (pe_ix hr ha hb hs).imp (lift_op l)
theorem LR.or {K : PySem.W.Frag} {r r' : R2} {rh : R2h} (h : ∀ θ H A x y d e Q Qh, RD K θ H x d → RD K θ H y e → RA K θ H A → rh d e A Qh → Kt K θ H Q Qh → r x y H Q ∨ r' x y H Q) : LR K (fun x y H Q => r x y H Q ∨ r' x y H Q) rh := h
/-- + of whole numbers, texts, tuples, lists -/
def hAdd : R2h
  | .v (.int i), .v (.int j), A, Q => Q (.v (.int (i + j))) A
  | .v (.str x), .v (.str y), A, Q => x.length + y.length ≤ sizeLine ∧ Q (.v (.str (x ++ y))) A
  | .tup ds, .tup es, A, Q => ds.length + es.length ≤ sizeLine ∧ Q (.tup (ds ++ es)) A
  | .ptr i, .ptr j, A, Q => ∃ ds es, A[i]? = some (.lst ds) ∧ A[j]? = some (.lst es) ∧ ds.length + es.length ≤ sizeLine ∧ NewQ A (.lst (ds ++ es)) Q
  | _, _, _, _ => False
def rAddA (K : PySem.W.Frag) : R2 := fun x y H Q => rI0 (fun i j => .int (i + j)) x y H Q ∨ (∃ i j, x = .str i ∧ y = .str j ∧ i.length + j.length ≤ sizeLine ∧ Q (.str (i ++ j)) H) ∨ rCatA K x y H Q ∨ rCat x y H Q
theorem op_addA : OpR X (binaryOp .Add) (rAddA X.K) := op_add.or (op_add_str.or (op_catA.or op_cat))
theorem l_add {K : PySem.W.Frag} : LR K (rAddA K) hAdd := by
  intro θ H A x y d e Q Qh rd re ra w k
  unfold hAdd at w
  split at w
  · cases rd; cases re; exact .inl ⟨_, _, rfl, rfl, k.here ra (.v _) w⟩
  · cases rd; cases re; exact .inr (.inl ⟨_, _, rfl, rfl, w.1, k.here ra (.v _) w.2⟩)
  · cases rd with
    | @tup a xs ds h r =>
      cases re with
      | @tup b ys es h' r' =>
        refine .inr (.inr (.inl ⟨a, b, xs, ys, rfl, rfl, h, h', by rw [r.length, r'.length]; exact w.1, fun e => ?_, fun _ e => ?_, fun _ _ p hp => k.tup ra (r.append r') w.2 hp⟩))
        · subst e
          cases r
          exact k.here ra (.tup h' r') w.2
        · subst e
          cases r'
          rw [List.append_nil] at w
          exact k.here ra (.tup h r) w.2
  · obtain ⟨ds, es, h1, h2, hz, q⟩ := w
    cases rd with
    | ptr hi =>
      cases re with
      | ptr hj =>
        obtain ⟨xs, g1, r1⟩ := ra.ok _ _ _ hi h1
        obtain ⟨ys, g2, r2⟩ := ra.ok _ _ _ hj h2
        exact .inr (.inr (.inr ⟨_, _, xs, ys, rfl, rfl, g1, g2, by rw [r1.length, r2.length]; exact hz, fun p hp => k.lst ra (r1.append r2) q hp⟩))
  · exact w.elim
def hSub : R2h
  | .v (.int i), .v (.int j), A, Q => Q (.v (.int (i - j))) A
  | _, _, _, _ => False
theorem l_sub {K : PySem.W.Frag} : LR K (rI0 fun i j => .int (i - j)) hSub := by
  intro θ H A x y d e Q Qh rd re ra w k
  unfold hSub at w
  split at w
  · cases rd; cases re; exact ⟨_, _, rfl, rfl, k.here ra (.v _) w⟩
  · exact w.elim
/-- * of whole numbers (one of them small), of a list by a number -/
def hMul : R2h
  | .v (.int i), .v (.int j), A, Q => CMul i j ∧ Q (.v (.int (i * j))) A
  | .ptr i, .v (.int k), A, Q => ∃ ds, A[i]? = some (.lst ds) ∧ -(2 ^ 63) ≤ k ∧ k < 2 ^ 63 ∧ ds.length * k.toNat ≤ sizeLine ∧ NewQ A (.lst (List.replicate k.toNat ds).flatten) Q
  | _, _, _, _ => False
def rMulA : R2 := fun x y H Q => rI CMul (fun i j => .int (i * j)) x y H Q ∨ rRep x y H Q
theorem op_mulA : OpR X (binaryOp .Mult) rMulA := op_mul.or op_rep
theorem l_mul {K : PySem.W.Frag} : LR K rMulA hMul := by
  intro θ H A x y d e Q Qh rd re ra w k
  unfold hMul at w
  split at w
  · cases rd; cases re; exact .inl ⟨_, _, rfl, rfl, w.1, k.here ra (.v _) w.2⟩
  · obtain ⟨ds, h1, h2, h3, h4, q⟩ := w
    cases rd with
    | ptr hi =>
      cases re
      obtain ⟨xs, g1, r1⟩ := ra.ok _ _ _ hi h1
      exact .inr ⟨_, _, xs, rfl, rfl, g1, h2, h3, by rw [r1.length]; exact h4, fun p hp => k.lst ra (r1.replicate _) q hp⟩
  · exact w.elim
def hMod : R2h
  | .v (.int i), .v (.int j), A, Q => 0 < j ∧ Q (.v (.int (i % j))) A
  | _, _, _, _ => False
theorem l_mod {K : PySem.W.Frag} : LR K (rI (fun _ j => 0 < j) fun i j => .int (i % j)) hMod := by
  intro θ H A x y d e Q Qh rd re ra w k
  unfold hMod at w
  split at w
  · cases rd; cases re; exact ⟨_, _, rfl, rfl, w.1, k.here ra (.v _) w.2⟩
  · exact w.elim
def hDiv : R2h
  | .v (.int i), .v (.int j), A, Q => CDiv i j ∧ Q (.v (.int (i / j))) A
  | _, _, _, _ => False
theorem l_div {K : PySem.W.Frag} : LR K (rI CDiv fun i j => .int (i / j)) hDiv := by
  intro θ H A x y d e Q Qh rd re ra w k
  unfold hDiv at w
  split at w
  · cases rd; cases re; exact ⟨_, _, rfl, rfl, w.1, k.here ra (.v _) w.2⟩
  · exact w.elim
def hPow : R2h
  | .v (.int i), .v (.int j), A, Q => CPow i j ∧ Q (.v (.int (i ^ j.toNat))) A
  | _, _, _, _ => False
theorem l_pow {K : PySem.W.Frag} : LR K (rI CPow fun i j => .int (i ^ j.toNat)) hPow := by
  intro θ H A x y d e Q Qh rd re ra w k
  unfold hPow at w
  split at w
  · cases rd; cases re; exact ⟨_, _, rfl, rfl, w.1, k.here ra (.v _) w.2⟩
  · exact w.elim
/-- <, <=, >, >= of whole numbers -/
def hI (f : Int → Int → Bool) : R2h
  | .v (.int i), .v (.int j), A, Q => Q (.v (.bl (f i j))) A
  | _, _, _, _ => False
theorem l_cmpI {K : PySem.W.Frag} {f : Int → Int → Bool} : LR K (rI0 fun i j => .bl (f i j)) (hI f) := by
  intro θ H A x y d e Q Qh rd re ra w k
  unfold hI at w
  split at w
  · cases rd; cases re; exact ⟨_, _, rfl, rfl, k.here ra (.v _) w⟩
  · exact w.elim
/-! ### a[i] -/
def hIx : R2h
  | .tup ds, .v (.int i), A, Q => ∃ d, atI ds i = some d ∧ Q d A
  | .ptr k, .v (.int i), A, Q => ∃ ds, A[k]? = some (.lst ds) ∧ ∃ d, atI ds i = some d ∧ Q d A
  | .scr ns, .v (.int i), A, Q => ∃ n, atI ns i = some n ∧ Q (.v (.int n)) A
  | _, _, _, _ => False
theorem RDs.atI {K : PySem.W.Frag} {θ : List Addr} {H : Hp} {vs : List V} {ds : List D} {i : Int} {d : D} (r : RDs K θ H vs ds) (h : atI ds i = some d) : ∃ v, L2.atI vs i = some v ∧ RD K θ H v d := by
  unfold L2.atI at h ⊢
  rw [r.length]
  cases e : ixN ds.length i with
  | none => rw [e] at h; cases h
  | some j =>
    rw [e] at h
    exact r.get h
theorem l_ix {K : PySem.W.Frag} : LR K (rIx K) hIx := by
  intro θ H A x y d e Q Qh rd re ra w k
  unfold hIx at w
  split at w
  · obtain ⟨d, h, q⟩ := w
    cases re
    cases rd with
    | tup hs r =>
      obtain ⟨v, h1, h2⟩ := r.atI h
      exact .inr (.inl ⟨_, _, _, v, rfl, rfl, hs, h1, k.here ra h2 q⟩)
  · obtain ⟨ds, h0, d, h, q⟩ := w
    cases re
    cases rd with
    | ptr hi =>
      obtain ⟨xs, g, r⟩ := ra.ok _ _ _ hi h0
      obtain ⟨v, h1, h2⟩ := r.atI h
      exact .inl ⟨_, _, _, v, rfl, rfl, SqL.of g, h1, k.here ra h2 q⟩
  · obtain ⟨n, h, q⟩ := w
    rename_i ns i
    cases re
    cases rd with
    | @scr a _ hs =>
      have r : RDs K θ H (ns.map V.int) (ns.map fun x => D.v (.int x)) := RDs.scal V.int ns
      obtain ⟨v, h1, h2⟩ := r.atI (i := _) (d := .v (.int n)) (by
        unfold L2.atI at h ⊢
        rw [List.length_map]
        cases e : ixN ns.length _ with
        | none => rw [e] at h; cases h
        | some j =>
          rw [e] at h
          show (ns.map _)[j]? = _
          rw [List.getElem?_map]
          rw [show ns[j]? = some n from h]
          rfl)
      exact .inl ⟨_, _, _, v, rfl, rfl, hs.l, h1, k.here ra h2 q⟩
  · exact w.elim
/-! ### slices -/
def cutD (xs : List D) (lo hi : Option Int) : List D := (xs.drop (HT.sIx xs.length 0 lo)).take (HT.sIx xs.length xs.length hi - HT.sIx xs.length 0 lo)
def cutI (xs : List Int) (lo hi : Option Int) : List Int := (xs.drop (HT.sIx xs.length 0 lo)).take (HT.sIx xs.length xs.length hi - HT.sIx xs.length 0 lo)
def hCut : D → Option Int → Option Int → OH → KH → Prop
  | .tup ds, lo, hi, A, Q => Q (.tup (cutD ds lo hi)) A
  | .ptr k, lo, hi, A, Q => ∃ ds, A[k]? = some (.lst ds) ∧ NewQ A (.lst (cutD ds lo hi)) Q
  | .scr ns, lo, hi, A, Q => NewQ A (.lst ((cutI ns lo hi).map fun n => .v (.int n))) Q
  | _, _, _, _, _ => False
def hSl (te : TEh) (tl th : TOh) : TEh := fun σ A Q => te σ A fun x A1 => tl σ A1 fun l A2 => th σ A2 fun u A3 => hCut x l u A3 Q
def hPart (t : TEh) : TOh := fun σ A Q => t σ A fun d A1 => match d with | .v (.int i) => Q (some i) A1 | _ => False
def hNoPart : TOh := fun _ A Q => Q none A
theorem poh_none : PO X none (liftO X.K hNoPart) := po_none.imp fun σ H Q ⟨θ, σh, A, Qh, rs, ra, w, k⟩ => k _ _ _ _ (.refl _ _) ra w
theorem poh_some {t : TEh} (h : PE X e (lift X.K t)) : PO X (some e) (liftO X.K (hPart t)) := (po_some h).imp fun σ H Q ⟨θ, σh, A, Qh, rs, ra, w, k⟩ =>
  ⟨θ, σh, A, _, rs, ra, w, fun θ1 H1 A1 v d e1 ra1 r1 w1 => by
    split at w1
    · cases r1; exact ⟨_, rfl, k _ _ _ _ e1 ra1 w1⟩
    · exact w1.elim⟩
theorem RDs.cut {K : PySem.W.Frag} {θ : List Addr} {H : Hp} {vs : List V} {ds : List D} {lo hi : Option Int} (r : RDs K θ H vs ds) : RDs K θ H (cutV vs lo hi) (cutD ds lo hi) := by
  unfold cutV cutD
  rw [r.length]
  exact (r.drop _).take _
theorem RDs.cut_whole {K : PySem.W.Frag} {θ : List Addr} {H : Hp} {xs : List V} {ds : List D} {lo hi : Option Int} (r : RDs K θ H xs ds) (z : HT.sIx xs.length 0 lo = 0 ∧ HT.sIx xs.length xs.length hi = xs.length) : cutD ds lo hi = ds := by
  unfold cutD
  rw [← r.length, z.1, z.2, Nat.sub_zero, List.drop_zero, r.length, List.take_length]
theorem cut_ints (ns : List Int) (l u : Option Int) : cutV (ns.map V.int) l u = (cutI ns l u).map V.int := by
  unfold cutV cutI
  rw [List.length_map, List.map_take, List.map_drop]
theorem sl_any : SlR X (fun x lo hi H Q => rSlL X.K x lo hi H Q ∨ rSlA X.K x lo hi H Q) := sl_list.or sl_tupA
theorem ph_slice {lo hi : Option Expr} {te : TEh} {tl th : TOh} (he : PE X e (lift X.K te)) (hl : PO X lo (liftO X.K tl)) (hu : PO X hi (liftO X.K th)) : PE X (.Subscript e (.Slice lo hi none p2) pos) (lift X.K (hSl te tl th)) :=
  (pe_slice sl_any he hl hu).imp fun σ H Q ⟨θ, σh, A, Qh, rs, ra, w, k⟩ => ⟨θ, σh, A, _, rs, ra, w, fun θ1 H1 A1 v d e1 ra1 r1 w1 => ⟨θ1, σh, A1, _, rs.ext e1, ra1, w1, fun θ2 H2 A2 l e2 ra2 w2 =>
    ⟨θ2, σh, A2, _, (rs.ext e1).ext e2, ra2, w2, fun θ3 H3 A3 u e3 ra3 w3 => by
      have r3 := (r1.ext e2).ext e3
      have k3 := ((k.ext e1).ext e2).ext e3
      unfold hCut at w3
      split at w3
      · cases r3 with
        | @tup a xs ds hs r =>
          refine .inr ⟨_, xs, rfl, hs, fun z => ?_, fun _ p hp => k3.tup ra3 r.cut w3 hp⟩
          rw [r.cut_whole z] at w3
          exact k3.here ra3 (.tup hs r) w3
      · obtain ⟨ds, h0, q⟩ := w3
        cases r3 with
        | ptr hi =>
          obtain ⟨xs, g, r⟩ := ra3.ok _ _ _ hi h0
          exact .inl ⟨_, xs, rfl, SqL.of g, fun p hp => k3.lst ra3 r.cut q hp⟩
      · cases r3 with
        | @scr a ns hs =>
          refine .inl ⟨_, _, rfl, hs.l, fun p hp => k3.lst ra3 ?_ w3 hp⟩
          rw [cut_ints]
          exact RDs.scal V.int _
      · exact w3.elim⟩⟩⟩
end
end Rp

namespace Rp
open PySem PySem.Spec PyProof.Rows L2
/-! ### a def whose promise wants that nothing is being shown (repr) around it -/
structure FnG (P : Program) (w : World) (K : PySem.W.Frag) (mg : Str → Option Value) (base : Heap) (CX : CXT) (k : Nat) (f : Addr) (fd : FuncData) (ps : List Str) (sp : Sp) : Prop where
  len : ∀ vs H Q E, sp vs H Q E → vs.length = ps.length
  go : ∀ (A : Around) (outer : List Env) (s : Shared) (H : Hp) (args : Args) (us : List Value) (vs : List V) (Q : VK) (E : XK), A.guards = some [] → Room k A → Env0 P w K mg base A outer s H →
    BindsTo s fd args (ps.zip us) → Vals vs us → sp vs H Q E → codeAny (model P w) A (.call (.ref f) args) (CR CX outer P w H s Q E) s
theorem FnG.of {P : Program} {w : World} {K : PySem.W.Frag} {mg : Str → Option Value} {base : Heap} {CX : CXT} {k : Nat} {f : Addr} {fd : FuncData} {ps : List Str} {sp : Sp} (F : FnOk P w K mg base CX k f fd ps sp) : FnG P w K mg base CX k f fd ps sp :=
  ⟨F.len, fun A outer s H args us vs Q E _ => F.run A outer s H args us vs Q E⟩
theorem deeper_guards {A : Around} {env : Env} (h : A.guards = some []) : (A.deeper env).guards = some [] := h
section
variable {P : Program} {w : World} {K : PySem.W.Frag} {mg : Str → Option Value} {base : Heap} {CX : CXT}
/-- a def by its body, the guards known -/
theorem fnG_of {x qual : Str} {st : Stmt} {f : Addr} {fd : FuncData} {N ps : List Str} {k : Nat} {sp : Sp} (F : Fun K x qual st f fd) (S : FnScope N ps (defScope st)) (len : ∀ vs H Q E, sp vs H Q E → vs.length = ps.length)
    (hb : ∀ (cdv : Value) (A : Around) (outer : List Env) (s : Shared) (H : Hp) (vs : List V) (Q : VK) (E : XK), (A.deeper (envOfC qual (defScope st) s.heap.objs.size f cdv)).guards = some [] → Room k (A.deeper (envOfC qual (defScope st) s.heap.objs.size f cdv)) → sp vs H Q E →
      ∃ t, PSs (cxOf CX P w K mg base N qual (defScope st) f cdv A outer s H E) (defBody st) t ∧ t { nx := fun _ H' => Q .non H', rt := Q } (start N vs) H) : FnG P w K mg base CX (k + 1) f fd ps sp := by
  obtain ⟨oc, od, kV, doc, pm, an, cdv, ct, osl, rfl, lk, hcd⟩ := F.ex
  refine ⟨len, fun A outer s H args us vs Q E gA room en bi rel want => ?_⟩
  have kept : ∀ b o, base.get? b = some o → s.heap.get? b = some o := fun b o e => (en.bs b o e).1
  have inK : K.In s.heap := en.mod.kin.keeps kept
  refine codeAny_call_function room.depth (inK _ _ lk) rfl S.co S.gen rfl (PySem.W.codeRec_of inK hcd) (bi _ _ _ _ ?_)
  refine wpAny_newFunctionEnv_cells S.kind (fun y hy => ?_) fun env he s1 made => ?_
  · rcases S.par y.1 (List.of_mem_zip (show (y.1, y.2) ∈ ps.zip us from hy)).1 with q | q
    · exact .inl q
    · exact .inr ⟨q, PySem.W.cellsFrom_some _ _ _ (.inl q)⟩
  subst he
  refine ⟨(en.mod.nolimit.keeps kept).keeps made.toInCall.keep, codeAny_func ?_⟩
  obtain ⟨t, body, reads⟩ := hb cdv A outer s H vs Q E (deeper_guards gA) (room.deeper _) want
  refine wpAny_mono (body.run [] s1 (start N vs) H _ (inv_start S room.hd en (len _ _ _ _ want) rel made) reads) (fun fl s' hs => ?_) fun e s' hs => hs
  cases fl with
  | ret u =>
    obtain ⟨v, σ', H', J, rv, q⟩ := hs
    exact ⟨v, H', J.os, J.bare, J.base, J.hok, rv, q⟩
  | next =>
    obtain ⟨σ', H', J, q⟩ := hs
    exact ⟨V.non, H', J.os, J.bare, J.base, J.hok, rfl, q⟩
  | brk => exact absurd hs (fun ⟨_, _, _, z⟩ => (z : False))
  | cont => exact absurd hs (fun ⟨_, _, _, z⟩ => (z : False))
/-- .. that lets no error out -/
theorem okG {x qual : Str} {st : Stmt} {f : Addr} {fd : FuncData} {N ps : List Str} {k : Nat} {sp : Sp} (F : Fun K x qual st f fd) (S : FnScope N ps (defScope st)) (len : ∀ vs H Q E, sp vs H Q E → vs.length = ps.length)
    (hb : ∀ (cdv : Value) (A : Around) (outer : List Env) (s : Shared) (H : Hp) (vs : List V) (Q : VK) (E : XK), (A.deeper (envOfC qual (defScope st) s.heap.objs.size f cdv)).guards = some [] → Room k (A.deeper (envOfC qual (defScope st) s.heap.objs.size f cdv)) → sp vs H Q E →
      ∃ t, PSs (cxOf CX P w K mg base N qual (defScope st) f cdv A outer s H E).nox (defBody st) t ∧ t { nx := fun _ H' => Q .non H', rt := Q } (start N vs) H) : FnG P w K mg base CX (k + 1) f fd ps sp :=
  fnG_of F S len fun cdv A outer s H vs Q E gA room want => let ⟨t, body, reads⟩ := hb cdv A outer s H vs Q E gA room want; ⟨t, body.nox, reads⟩
end
section
variable {X : Cx} {CX : CXT} {k : Nat} {f C : Addr} {fd : FuncData} {ps : List Str} {sp : Sp} {E : XK} {x m : Str} {p pos apos : Pos} {e o : Expr} {es : List Expr} {ta : TE} {t : TA}
theorem runG {pins : List (Addr × Obj)} {σ : L2.St} {H : Hp} {s : Shared} {Q : VK} {us : List Value} {vs : List V} (F : FnG X.prog X.w X.K X.mg X.base CX k f fd ps sp) (gA : X.A.guards = some []) (room : Room k X.A) (hb : L2.Binds X.K fd ps [])
    (hx : Passes CX X E) (I : Inv X pins σ H s) (r : Vals vs us) (h : sp vs H Q E) : wpAny (model X.prog X.w) X.A (call (.ref f) us) (EP X pins σ Q) X.xe s := by
  have hl : (us ++ []).length = ps.length := by rw [List.append_nil, ← r.length]; exact F.len _ _ _ _ h
  have bi := hb s us I.kIn hl
  rw [List.append_nil] at bi
  refine wpAny_call (codeAny_mono (F.go X.A X.stack s H ⟨us, []⟩ us vs Q E gA room I.env0 bi r h) fun res s' hq => ?_)
  cases res with
  | error e => exact hx pins σ H s e s' I hq
  | ok fl =>
    cases fl with
    | ret u => exact I.after hq
    | next => exact hq.elim
    | brk => exact hq.elim
    | cont => exact hq.elim
def tCallG (sp : Sp) (E : XK) (t : TA) : TE := fun σ H Q => t σ H fun vs H1 => sp vs H1 Q E
theorem pe_callG (F : FnG X.prog X.w X.K X.mg X.base CX k f fd ps sp) (gA : X.A.guards = some []) (room : Room k X.A) (hg : Gl X x) (hm : X.mg x = some (.ref f)) (hk : PySem.W.keepIn X.K (.ref f) = true) (hb : L2.Binds X.K fd ps [])
    (hx : Passes CX X E) (ha : PA X (e :: es) t) (hdb : (x == ("__debug__" : Str)) = false := by decide) (hst : starEach (e :: es) X.env = (false, eval e X.env) :: starEach es X.env := by rfl)
    (hpl : (backTo pos (starEach es X.env)).any (·.1) = false := by rfl) : PE X (.Call (.Name x p) (e :: es) [] pos) (tCallG sp E t) :=
  ⟨fun pins s σ H Q I h => wpAny_Call_Name_kw (ld_glob I hg hm (PySem.W.callWith_K (h₀ := X.base) I.ok.mod.kin hk (thn (ha.run pos pins s σ H _ I h) fun us s1 ⟨vs, H1, I1, r, q⟩ => ⟨I1.kIn, runG F gA room hb hx I1 r q⟩) hst hpl) hdb)⟩
end
/-! ### repr of data -/
/-- what may be shown -/
structure Shw (d : PyData) : Prop where
  sh : d.showable = true
  nd : d.hasDict = false
  dp : d.depth ≤ 16
  sz : d.shown.length ≤ sizeLine
section
variable {X : Cx}
theorem call_reprD (gA : X.A.guards = some []) (hu : X.A.units + 64 < cLine) : CallR X (.builtin "repr") (fun xs H Q => ∃ x d, xs = [x] ∧ Dp X.K H x d ∧ Shw d ∧ Q (.str d.shown) H) := by
  intro pins s σ H xs us Q I r h
  obtain ⟨x, d, rfl, hd, hw, q⟩ := h
  cases r with
  | cons rx rn =>
    cases rn
    have dp := hw.dp
    cases hd with
    | non => cases rx; exact PySem.P.repr_of_none ⟨.str _, H, I.tok _, ⟨_, rfl⟩, q⟩
    | bl b => cases rx; exact PySem.P.repr_of_bool ⟨.str _, H, I.tok _, ⟨_, rfl⟩, q⟩
    | int i =>
      obtain ⟨t, rfl⟩ := rx
      exact PySem.P.repr_of_int (by have := hw.sh; simpa [PyData.showable] using this) ⟨.str _, H, I.tok _, ⟨_, rfl⟩, q⟩
    | str z =>
      obtain ⟨t, rfl⟩ := rx
      exact PySem.P.repr_of_str ⟨.str _, H, I.tok _, ⟨_, rfl⟩, q⟩ hw.sz
    | @lst a xs ds h1 h2 =>
      obtain ⟨as, rd⟩ := Dp.reads I (.list ds) (.ref a) _ (.lst h1 h2) rx
      cases rx
      exact repr_of_reads' rd hw.sh (PyData.noDict_hsm hw.nd) gA (by omega) (fun _ _ z => z) (fun h' u tk kp => ⟨.str _, H, I.kept kp, ⟨_, rfl⟩, q⟩) hw.sz
    | @tup a xs ds h1 h2 =>
      obtain ⟨as, rd⟩ := Dp.reads I (.tuple ds) (.ref a) _ (.tup h1 h2) rx
      cases rx
      exact repr_of_reads' rd hw.sh (PyData.noDict_hsm hw.nd) gA (by omega) (fun _ _ z => z) (fun h' u tk kp => ⟨.str _, H, I.kept kp, ⟨_, rfl⟩, q⟩) hw.sz
end
end Rp

/-! Tests, statements, loops, comprehensions over data. -/
namespace Rp
open PySem PySem.Spec PyProof.Rows L2
/-- both ways of a test -/
structure Br (b : Bool) (p q : Prop) : Prop where
  yes : b = true → p
  no : b = false → q
theorem Br.t {p q : Prop} (h : p) : Br true p q := ⟨fun _ => h, fun z => Bool.noConfusion z⟩
theorem Br.f {p q : Prop} (h : q) : Br false p q := ⟨fun z => Bool.noConfusion z, fun _ => h⟩
theorem Br.d {c : Prop} [Decidable c] {p q : Prop} (h : c → p) (h' : ¬ c → q) : Br (decide c) p q := ⟨fun e => h (of_decide_eq_true e), fun e => h' (of_decide_eq_false e)⟩
theorem Br.n {c : Prop} [Decidable c] {p q : Prop} (h : ¬ c → p) (h' : c → q) : Br (!decide c) p q := ⟨fun e => h (by simpa using e), fun e => h' (by simpa using e)⟩
theorem Br.ite {b : Bool} {p q : Prop} (h : Br b p q) : if b = true then p else q := by
  cases b with
  | true => exact h.yes rfl
  | false => exact h.no rfl
section
variable {X : Cx} {e a b c : Expr} {es : List Expr} {x : Str} {pos p p2 : Pos}
/-- a value's truth -/
def hTru : D → OH → (Bool → OH → Prop) → Prop
  | .v .non, A, Q => Q false A
  | .v (.bl b), A, Q => Q b A
  | .v (.int i), A, Q => Q (i != 0) A
  | .v (.str y), A, Q => y.length ≤ sizeLine ∧ Q ((y.length : Int) != 0) A
  | .tup ds, A, Q => Q (!ds.isEmpty) A
  | .ptr k, A, Q => (∃ ds, A[k]? = some (.lst ds) ∧ Q (!ds.isEmpty) A) ∨ ∃ kvs, A[k]? = some (.dK kvs) ∧ Q (!kvs.isEmpty) A
  | .scr ns, A, Q => Q (!ns.isEmpty) A
  | _, _, _ => False
theorem RDs.isEmpty {K : PySem.W.Frag} {θ : List Addr} {H : Hp} {xs : List V} {ds : List D} (r : RDs K θ H xs ds) : (!xs.isEmpty) = !ds.isEmpty := by cases r <;> rfl
theorem RF.isEmpty {κ : Type} {K : PySem.W.Frag} {θ : List Addr} {H : Hp} {xs : List (κ × V)} {ds : List (κ × D)} (r : RF K θ H xs ds) : (!xs.isEmpty) = !ds.isEmpty := by cases r <;> rfl
def hTv (t : TEh) : TTh := fun σ A Q => t σ A fun d A1 => hTru d A1 Q
theorem pth_val {t : TEh} (h : PE X a (lift X.K t)) (he : ∀ whole, isTrue a X.env whole = (do let v ← whole; standAt a.pos; holding [v] (truthy v)) := by intro _; rfl) : PT X a (liftT X.K (hTv t)) :=
  (pt_truth h he).imp fun σ H Q ⟨θ, σh, A, Qh, rs, ra, w, k⟩ => ⟨θ, σh, A, _, rs, ra, w, fun θ1 H1 A1 v d e1 ra1 r1 w1 => by
    unfold hTru at w1
    split at w1
    · cases r1; exact ⟨false, rfl, k _ _ _ _ e1 ra1 w1⟩
    · cases r1; exact ⟨_, rfl, k _ _ _ _ e1 ra1 w1⟩
    · cases r1; exact ⟨_, rfl, k _ _ _ _ e1 ra1 w1⟩
    · cases r1; exact ⟨_, ⟨w1.1, rfl⟩, k _ _ _ _ e1 ra1 w1.2⟩
    · cases r1 with
      | tup hs r => exact ⟨_, .inr (.inl ⟨_, hs, rfl⟩), k _ _ _ _ e1 ra1 (by rw [r.isEmpty]; exact w1)⟩
    · cases r1 with
      | ptr hi =>
        rcases w1 with ⟨ds, h0, q⟩ | ⟨kvs, h0, q⟩
        · obtain ⟨xs, g, r⟩ := ra1.ok _ _ _ hi h0
          exact ⟨_, .inl ⟨_, SqL.of g, rfl⟩, k _ _ _ _ e1 ra1 (by rw [r.isEmpty]; exact q)⟩
        · obtain ⟨xs, g, r⟩ := ra1.ok _ _ _ hi h0
          exact ⟨_, .inr (.inr ⟨_, g, rfl⟩), k _ _ _ _ e1 ra1 (by rw [r.isEmpty]; exact q)⟩
    · cases r1 with
      | scr hs => exact ⟨_, .inl ⟨_, hs.l, rfl⟩, k _ _ _ _ e1 ra1 (by rw [List.isEmpty_map]; exact w1)⟩
    · exact w1.elim⟩
def hTest (t : TEh) : TTh := fun σ A Q => t σ A fun d A1 => match d with | .v (.bl b) => Q b A1 | _ => False
theorem pth_cmp {op : CmpOp} {r : R2} {rh : R2h} {ta tb : TEh} (l : LR X.K r rh) (ho : OpR X (compareOp op) r) (ha : PE X a (lift X.K ta)) (hb : PE X b (lift X.K tb)) (hm : behindInMarks op b = false) : PT X (.Compare a [op] [b] pos) (liftT X.K (hTest (hOp rh ta tb))) :=
  (pt_cmpR ho ha hb hm).imp fun σ H Q ⟨θ, σh, A, Qh, rs, ra, w, k⟩ => lift_op l σ H _ ⟨θ, σh, A, _, rs, ra, w, fun θ1 H1 A1 v d e1 ra1 r1 w1 => by
    split at w1
    · cases r1; exact ⟨_, rfl, k _ _ _ _ e1 ra1 w1⟩
    · exact w1.elim⟩
/-- a op1 b op2 c of whole numbers -/
def hChain (r r' : R2h) (ta tb tc : TEh) : TEh := fun σ A Q => ta σ A fun x A1 => tb σ A1 fun y A2 => r x y A2 fun z A3 => match z with | .v (.bl k) => Br k (tc σ A3 fun w A4 => r' y w A4 Q) (Q (.v (.bl false)) A3) | _ => False
theorem lift_chain {K : PySem.W.Frag} {r r' : R2} {rh rh' : R2h} {ta tb tc : TEh} (l : LR K r rh) (l' : LR K r' rh') (σ : L2.St) (H : Hp) (Q : VK) : lift K (hChain rh rh' ta tb tc) σ H Q → tChain r r' (lift K ta) (lift K tb) (lift K tc) σ H Q :=
  fun ⟨θ, σh, A, Qh, rs, ra, w, k⟩ => ⟨θ, σh, A, _, rs, ra, w, fun θ1 H1 A1 x d e1 ra1 r1 w1 => ⟨θ1, σh, A1, _, rs.ext e1, ra1, w1, fun θ2 H2 A2 y e e2 ra2 r2 w2 =>
    l _ _ _ _ _ _ _ _ _ (r1.ext e2) r2 ra2 w2 fun θ3 H3 A3 z dz e3 ra3 r3 w3 => by
      split at w3
      · rename_i k'
        cases r3
        refine ⟨k', rfl, ?_⟩
        cases k' with
        | true => exact ⟨θ3, σh, A3, _, ((rs.ext e1).ext e2).ext e3, ra3, w3.yes rfl, fun θ4 H4 A4 u du e4 ra4 r4 w4 => l' _ _ _ _ _ _ _ _ _ ((r2.ext e3).ext e4) r4 ra4 w4 ((((k.ext e1).ext e2).ext e3).ext e4)⟩
        | false => exact (((k.ext e1).ext e2).ext e3).here ra3 (.v _) (w3.no rfl)
      · exact w3.elim⟩⟩
theorem ph_chain {op op' : CmpOp} {r r' : R2} {rh rh' : R2h} {ta tb tc : TEh} (l : LR X.K r rh) (l' : LR X.K r' rh') (ho : OpR X (compareOp op) r) (ho' : OpR X (compareOp op') r') (ha : PE X a (lift X.K ta)) (hb : PE X b (lift X.K tb)) (hc : PE X c (lift X.K tc))
    (hm : lastMarks [op, op'] [b, c] = false := by with_unfolding_all rfl) : PE X (.Compare a [op, op'] [b, c] pos) (lift X.K (hChain rh rh' ta tb tc)) := (pe_chain ho ho' ha hb hc hm).imp (lift_chain l l')
theorem pth_chain {op op' : CmpOp} {r r' : R2} {rh rh' : R2h} {ta tb tc : TEh} (l : LR X.K r rh) (l' : LR X.K r' rh') (ho : OpR X (compareOp op) r) (ho' : OpR X (compareOp op') r') (ha : PE X a (lift X.K ta)) (hb : PE X b (lift X.K tb)) (hc : PE X c (lift X.K tc))
    (hm : lastMarks [op, op'] [b, c] = false := by with_unfolding_all rfl) : PT X (.Compare a [op, op'] [b, c] pos) (liftT X.K (hTest (hChain rh rh' ta tb tc))) :=
  (pt_chain ho ho' ha hb hc hm).imp fun σ H Q ⟨θ, σh, A, Qh, rs, ra, w, k⟩ => lift_chain l l' σ H _ ⟨θ, σh, A, _, rs, ra, w, fun θ1 H1 A1 v d e1 ra1 r1 w1 => by
    split at w1
    · cases r1; exact ⟨_, rfl, k _ _ _ _ e1 ra1 w1⟩
    · exact w1.elim⟩
def hAnd (t u : TTh) : TTh := fun σ A Q => t σ A fun b A1 => Br b (u σ A1 Q) (Q false A1)
def hOr (t u : TTh) : TTh := fun σ A Q => t σ A fun b A1 => Br b (Q true A1) (u σ A1 Q)
def hNot (t : TTh) : TTh := fun σ A Q => t σ A fun b A1 => Q (!b) A1
variable {rest : List Expr}
theorem pwh_and1 {t : TTh} (ha : PT X a (liftT X.K t)) : PW X (.BoolOp .And [a] pos) (liftT X.K t) := pw_and1 ha
theorem pwh_or1 {t : TTh} (ha : PT X a (liftT X.K t)) : PW X (.BoolOp .Or [a] pos) (liftT X.K t) := pw_or1 ha
theorem pwh_and {t u : TTh} (ha : PT X a (liftT X.K t)) (hb : PW X (.BoolOp .And (b :: rest) pos) (liftT X.K u)) : PW X (.BoolOp .And (a :: b :: rest) pos) (liftT X.K (hAnd t u)) :=
  (pw_and ha hb).imp fun σ H Q ⟨θ, σh, A, Qh, rs, ra, w, k⟩ => ⟨θ, σh, A, _, rs, ra, w, fun θ1 H1 A1 b e1 ra1 w1 => by
    cases b with
    | true => exact ⟨θ1, σh, A1, _, rs.ext e1, ra1, w1.yes rfl, fun θ2 H2 A2 b e2 ra2 w2 => k _ _ _ _ (e1.trans e2) ra2 w2⟩
    | false => exact k _ _ _ _ e1 ra1 (w1.no rfl)⟩
theorem pwh_or {t u : TTh} (ha : PT X a (liftT X.K t)) (hb : PW X (.BoolOp .Or (b :: rest) pos) (liftT X.K u)) : PW X (.BoolOp .Or (a :: b :: rest) pos) (liftT X.K (hOr t u)) :=
  (pw_or ha hb).imp fun σ H Q ⟨θ, σh, A, Qh, rs, ra, w, k⟩ => ⟨θ, σh, A, _, rs, ra, w, fun θ1 H1 A1 b e1 ra1 w1 => by
    cases b with
    | true => exact k _ _ _ _ e1 ra1 (w1.yes rfl)
    | false => exact ⟨θ1, σh, A1, _, rs.ext e1, ra1, w1.no rfl, fun θ2 H2 A2 b e2 ra2 w2 => k _ _ _ _ (e1.trans e2) ra2 w2⟩⟩
theorem pth_not {t : TTh} (ha : PT X a (liftT X.K t)) : PT X (.UnaryOp .Not a pos) (liftT X.K (hNot t)) :=
  (pt_not ha).imp fun σ H Q ⟨θ, σh, A, Qh, rs, ra, w, k⟩ => ⟨θ, σh, A, _, rs, ra, w, fun θ1 H1 A1 b e1 ra1 w1 => k _ _ _ _ e1 ra1 w1⟩
/-- .. as values, all truths -/
def hAndV (t u : TEh) : TEh := fun σ A Q => t σ A fun d A1 => match d with | .v (.bl b) => Br b (u σ A1 Q) (Q (.v (.bl false)) A1) | _ => False
def hOrV (t u : TEh) : TEh := fun σ A Q => t σ A fun d A1 => match d with | .v (.bl b) => Br b (Q (.v (.bl true)) A1) (u σ A1 Q) | _ => False
def hNotV (t : TEh) : TEh := fun σ A Q => t σ A fun d A1 => match d with | .v (.bl b) => Q (.v (.bl (!b))) A1 | _ => False
theorem ph_one {op} {t : TEh} (h : PE X a (lift X.K t)) : PE X (.BoolOp op [a] pos) (lift X.K t) := pe_one h
theorem ph_and {t u : TEh} (ha : PE X a (lift X.K t)) (hb : PE X (.BoolOp .And (b :: rest) pos) (lift X.K u)) : PE X (.BoolOp .And (a :: b :: rest) pos) (lift X.K (hAndV t u)) :=
  (pe_and ha hb).imp fun σ H Q ⟨θ, σh, A, Qh, rs, ra, w, k⟩ => ⟨θ, σh, A, _, rs, ra, w, fun θ1 H1 A1 v d e1 ra1 r1 w1 => by
    split at w1
    · rename_i b
      cases r1
      refine ⟨b, rfl, ?_⟩
      cases b with
      | true => exact ⟨θ1, σh, A1, _, rs.ext e1, ra1, w1.yes rfl, k.ext e1⟩
      | false => exact (k.ext e1).here ra1 (.v _) (w1.no rfl)
    · exact w1.elim⟩
theorem ph_or {t u : TEh} (ha : PE X a (lift X.K t)) (hb : PE X (.BoolOp .Or (b :: rest) pos) (lift X.K u)) : PE X (.BoolOp .Or (a :: b :: rest) pos) (lift X.K (hOrV t u)) :=
  (pe_or ha hb).imp fun σ H Q ⟨θ, σh, A, Qh, rs, ra, w, k⟩ => ⟨θ, σh, A, _, rs, ra, w, fun θ1 H1 A1 v d e1 ra1 r1 w1 => by
    split at w1
    · rename_i b
      cases r1
      refine ⟨b, rfl, ?_⟩
      cases b with
      | true => exact (k.ext e1).here ra1 (.v _) (w1.yes rfl)
      | false => exact ⟨θ1, σh, A1, _, rs.ext e1, ra1, w1.no rfl, k.ext e1⟩
    · exact w1.elim⟩
theorem ph_not {t : TEh} (ha : PE X a (lift X.K t)) : PE X (.UnaryOp .Not a pos) (lift X.K (hNotV t)) :=
  (pe_not ha).imp fun σ H Q ⟨θ, σh, A, Qh, rs, ra, w, k⟩ => ⟨θ, σh, A, _, rs, ra, w, fun θ1 H1 A1 v d e1 ra1 r1 w1 => by
    split at w1
    · cases r1; exact ⟨_, rfl, (k.ext e1).here ra1 (.v _) w1⟩
    · exact w1.elim⟩
def hIfE (c : TTh) (t u : TEh) : TEh := fun σ A Q => c σ A fun b A1 => Br b (t σ A1 Q) (u σ A1 Q)
theorem ph_ifExp {tc : TTh} {t u : TEh} (hc : PT X c (liftT X.K tc)) (ha : PE X a (lift X.K t)) (hb : PE X b (lift X.K u)) : PE X (.IfExp c a b pos) (lift X.K (hIfE tc t u)) :=
  (pe_ifExp hc ha hb).imp fun σ H Q ⟨θ, σh, A, Qh, rs, ra, w, k⟩ => ⟨θ, σh, A, _, rs, ra, w, fun θ1 H1 A1 b e1 ra1 w1 => by
    cases b with
    | true => exact ⟨θ1, σh, A1, _, rs.ext e1, ra1, w1.yes rfl, k.ext e1⟩
    | false => exact ⟨θ1, σh, A1, _, rs.ext e1, ra1, w1.no rfl, k.ext e1⟩⟩
/-- - of a whole number -/
def hNeg (t : TEh) : TEh := fun σ A Q => t σ A fun d A1 => match d with | .v (.int i) => Q (.v (.int (-i))) A1 | _ => False
theorem ph_neg {t : TEh} (ha : PE X a (lift X.K t)) : PE X (.UnaryOp .USub a pos) (lift X.K (hNeg t)) :=
  (pe_un un_neg ha).imp fun σ H Q ⟨θ, σh, A, Qh, rs, ra, w, k⟩ => ⟨θ, σh, A, _, rs, ra, w, fun θ1 H1 A1 v d e1 ra1 r1 w1 => by
    split at w1
    · cases r1; exact ⟨_, rfl, (k.ext e1).here ra1 (.v _) w1⟩
    · exact w1.elim⟩
end
/-! ### statements -/
structure Eh where
  nx : SH → OH → Prop
  rt : KH
  bk : SH → OH → Prop := fun _ _ => False
  ct : SH → OH → Prop := fun _ _ => False
abbrev TSh := Eh → SH → OH → Prop
/-- what is wanted of the slots and the objects: by data -/
def Kn (K : PySem.W.Frag) (θ : List Addr) (H : Hp) (Q : L2.St → Hp → Prop) (Qh : SH → OH → Prop) : Prop := ∀ θ' σ' H' σh' A', Ext θ H θ' H' → RS K θ' H' σ' σh' → RA K θ' H' A' → Qh σh' A' → Q σ' H'
theorem Kn.ext {K : PySem.W.Frag} {θ θ' : List Addr} {H H' : Hp} {Q : L2.St → Hp → Prop} {Qh : SH → OH → Prop} (k : Kn K θ H Q Qh) (e : Ext θ H θ' H') : Kn K θ' H' Q Qh := fun _ _ _ _ _ e' rs ra q => k _ _ _ _ _ (e.trans e') rs ra q
structure KS (K : PySem.W.Frag) (θ : List Addr) (H : Hp) (De : Ends) (Dh : Eh) : Prop where
  nx : Kn K θ H De.nx Dh.nx
  rt : Kt K θ H De.rt Dh.rt
  bk : Kn K θ H De.bk Dh.bk
  ct : Kn K θ H De.ct Dh.ct
theorem KS.ext {K : PySem.W.Frag} {θ θ' : List Addr} {H H' : Hp} {De : Ends} {Dh : Eh} (k : KS K θ H De Dh) (e : Ext θ H θ' H') : KS K θ' H' De Dh := ⟨k.nx.ext e, k.rt.ext e, k.bk.ext e, k.ct.ext e⟩
def liftS (K : PySem.W.Frag) (t : TSh) : TS := fun De σ H => ∃ θ σh A Dh, RS K θ H σ σh ∧ RA K θ H A ∧ t Dh σh A ∧ KS K θ H De Dh
theorem _root_.L2.PS.imp {X : Cx} {st : Stmt} {t t' : TS} (h : PS X st t) (f : ∀ D σ H, t' D σ H → t D σ H) : PS X st t' := ⟨fun pins s σ H D I w => h.run pins s σ H D I (f D σ H w)⟩
theorem _root_.L2.PSs.imp {X : Cx} {st : List Stmt} {t t' : TS} (h : PSs X st t) (f : ∀ D σ H, t' D σ H → t D σ H) : PSs X st t' := ⟨fun pins s σ H D I w => h.run pins s σ H D I (f D σ H w)⟩
abbrev TGh := D → SH → OH → (SH → OH → Prop) → Prop
abbrev TGsh := List D → SH → OH → (SH → OH → Prop) → Prop
def liftG (K : PySem.W.Frag) (g : TGh) : TG := fun v σ H Q => ∃ θ d σh A Qh, RD K θ H v d ∧ RS K θ H σ σh ∧ RA K θ H A ∧ g d σh A Qh ∧ Kn K θ H Q Qh
def liftGs (K : PySem.W.Frag) (g : TGsh) : TGs := fun v σ H Q => ∃ θ d σh A Qh, RDs K θ H v d ∧ RS K θ H σ σh ∧ RA K θ H A ∧ g d σh A Qh ∧ Kn K θ H Q Qh
/-- a target's reading, by data -/
def LG (K : PySem.W.Frag) (g : TG) (gh : TGh) : Prop := ∀ v σ H Q, liftG K gh v σ H Q → g v σ H Q
def LGs (K : PySem.W.Frag) (g : TGs) (gh : TGsh) : Prop := ∀ v σ H Q, liftGs K gh v σ H Q → g v σ H Q
def hgName (i : Nat) : TGh := fun d σ A Q => Q (σ.set i (some d)) A
def hgNil : TGsh := fun ds σ A Q => match ds with | [] => Q σ A | _ => False
def hgCons (t : TGh) (u : TGsh) : TGsh := fun ds σ A Q => match ds with | d :: r => t d σ A fun σ1 A1 => u r σ1 A1 Q | _ => False
def hgTup (t : TGsh) : TGh := fun d σ A Q => match d with | .tup ds => t ds σ A Q | _ => False
section
variable {K : PySem.W.Frag}
theorem lg_name {i : Nat} : LG K (gName i) (hgName i) := fun v σ H Q ⟨θ, d, σh, A, Qh, r, rs, ra, w, k⟩ => k _ _ _ _ _ (.refl _ _) (RS.set (.some r) i rs) ra w
theorem lg_nil : LGs K gNil hgNil := fun v σ H Q ⟨θ, d, σh, A, Qh, r, rs, ra, w, k⟩ => by
  unfold hgNil at w
  split at w
  · cases r; exact ⟨rfl, k _ _ _ _ _ (.refl _ _) rs ra w⟩
  · exact w.elim
theorem lg_cons {g : TG} {gs : TGs} {gh : TGh} {gsh : TGsh} (h : LG K g gh) (h' : LGs K gs gsh) : LGs K (gCons g gs) (hgCons gh gsh) := fun v σ H Q ⟨θ, d, σh, A, Qh, r, rs, ra, w, k⟩ => by
  unfold hgCons at w
  split at w
  · cases r with
    | cons r1 r2 => exact ⟨_, _, rfl, h _ _ _ _ ⟨θ, _, σh, A, _, r1, rs, ra, w, fun θ1 σ1 H1 σh1 A1 e1 rs1 ra1 w1 => h' _ _ _ _ ⟨θ1, _, σh1, A1, _, r2.ext e1, rs1, ra1, w1, k.ext e1⟩⟩⟩
  · exact w.elim
/-- how many a target's names take -/
def LenG (gsh : TGsh) (n : Nat) : Prop := ∀ ds σ A Q, gsh ds σ A Q → ds.length = n
theorem len_nil : LenG hgNil 0 := fun ds σ A Q w => by
  unfold hgNil at w
  split at w
  · rfl
  · exact w.elim
theorem hgs_mono {gsh : TGsh} (h : ∀ ds σ A Q Q', (∀ σ A, Q σ A → Q' σ A) → gsh ds σ A Q → gsh ds σ A Q') : True := trivial
theorem lg_tup {n : Nat} {gs : TGs} {gsh : TGsh} (h : LGs K gs gsh) (hl : LenG gsh n) : LG K (gTup K n gs) (hgTup gsh) := fun v σ H Q ⟨θ, d, σh, A, Qh, r, rs, ra, w, k⟩ => by
  unfold hgTup at w
  split at w
  · cases r with
    | tup hs r => exact ⟨_, _, rfl, hs, by rw [r.length]; exact hl _ _ _ _ w, h _ _ _ _ ⟨θ, _, σh, A, _, r, rs, ra, w, k⟩⟩
  · exact w.elim
end
section
variable {X : Cx} {st : Stmt} {rest : List Stmt} {e a b : Expr} {es : List Expr} {pos : Pos}
def hNext : TSh := fun D σ A => D.nx σ A
def hSeq (t u : TSh) : TSh := fun D σ A => t { D with nx := u D } σ A
theorem pssh_nil : PSs X [] (liftS X.K hNext) := pss_nil.imp fun De σ H ⟨θ, σh, A, Dh, rs, ra, w, k⟩ => k.nx _ _ _ _ _ (.refl _ _) rs ra w
theorem pssh_cons {t u : TSh} (h1 : PS X st (liftS X.K t)) (h2 : PSs X rest (liftS X.K u)) : PSs X (st :: rest) (liftS X.K (hSeq t u)) :=
  (pss_cons h1 h2).imp fun De σ H ⟨θ, σh, A, Dh, rs, ra, w, k⟩ => ⟨θ, σh, A, _, rs, ra, w, ⟨fun θ1 σ1 H1 σh1 A1 e1 rs1 ra1 w1 => ⟨θ1, σh1, A1, Dh, rs1, ra1, w1, k.ext e1⟩, k.rt, k.bk, k.ct⟩⟩
theorem pssh_one {t : TSh} (h1 : PS X st (liftS X.K t)) : PSs X [st] (liftS X.K t) := pss_one h1
def hBreak : TSh := fun D σ A => D.bk σ A
def hCont : TSh := fun D σ A => D.ct σ A
theorem psh_pass : PS X (.Pass pos) (liftS X.K hNext) := ps_pass.imp fun De σ H ⟨θ, σh, A, Dh, rs, ra, w, k⟩ => k.nx _ _ _ _ _ (.refl _ _) rs ra w
theorem psh_break : PS X (.Break pos) (liftS X.K hBreak) := ps_break.imp fun De σ H ⟨θ, σh, A, Dh, rs, ra, w, k⟩ => k.bk _ _ _ _ _ (.refl _ _) rs ra w
theorem psh_continue : PS X (.Continue pos) (liftS X.K hCont) := ps_continue.imp fun De σ H ⟨θ, σh, A, Dh, rs, ra, w, k⟩ => k.ct _ _ _ _ _ (.refl _ _) rs ra w
theorem psh_dead {t : TSh} (h : PS X st (fun _ _ _ => False)) : PS X st (liftS X.K fun _ _ _ => False) := h.imp fun De σ H ⟨θ, σh, A, Dh, rs, ra, w, k⟩ => w
def hDrop (t : TEh) : TSh := fun D σ A => t σ A fun _ A1 => D.nx σ A1
theorem psh_expr {t : TEh} (he : PE X e (lift X.K t)) (hs : swapsWith e none pos.line X.env = pure false := by rfl) : PS X (.Expr e pos) (liftS X.K (hDrop t)) :=
  (ps_expr he hs).imp fun De σ H ⟨θ, σh, A, Dh, rs, ra, w, k⟩ => ⟨θ, σh, A, _, rs, ra, w, fun θ1 H1 A1 v d e1 ra1 r1 w1 => k.nx _ _ _ _ _ e1 (rs.ext e1) ra1 w1⟩
def hRet (t : TEh) : TSh := fun D σ A => t σ A D.rt
theorem psh_ret {t : TEh} (he : PE X e (lift X.K t)) : PS X (.Return (some e) pos) (liftS X.K (hRet t)) :=
  (ps_ret he).imp fun De σ H ⟨θ, σh, A, Dh, rs, ra, w, k⟩ => ⟨θ, σh, A, _, rs, ra, w, k.rt⟩
def hRetN : TSh := fun D _ A => D.rt (.v .non) A
theorem psh_retN : PS X (.Return none pos) (liftS X.K hRetN) := ps_retN.imp fun De σ H ⟨θ, σh, A, Dh, rs, ra, w, k⟩ => k.rt.here ra (.v _) w
def hIfS (c : TTh) (t u : TSh) : TSh := fun D σ A => c σ A fun b A1 => Br b (t D σ A1) (u D σ A1)
theorem psh_if {c : Expr} {xs ys : List Stmt} {tc : TTh} {t u : TSh} (hc : PT X c (liftT X.K tc)) (ha : PSs X xs (liftS X.K t)) (hb : PSs X ys (liftS X.K u)) : PS X (.If c xs ys pos) (liftS X.K (hIfS tc t u)) :=
  (ps_if hc ha hb).imp fun De σ H ⟨θ, σh, A, Dh, rs, ra, w, k⟩ => ⟨θ, σh, A, _, rs, ra, w, fun θ1 H1 A1 b e1 ra1 w1 => by
    cases b with
    | true => exact ⟨θ1, σh, A1, Dh, rs.ext e1, ra1, w1.yes rfl, k.ext e1⟩
    | false => exact ⟨θ1, σh, A1, Dh, rs.ext e1, ra1, w1.no rfl, k.ext e1⟩⟩
def hAsg (t : TEh) (g : TGh) : TSh := fun D σ A => t σ A fun d A1 => g d σ A1 D.nx
theorem lift_asg {t : TEh} {g : TG} {gh : TGh} (lg : LG X.K g gh) (De : Ends) (σ : L2.St) (H : Hp) : liftS X.K (hAsg t gh) De σ H → tAsg (lift X.K t) g De σ H := fun ⟨θ, σh, A, Dh, rs, ra, w, k⟩ =>
  ⟨θ, σh, A, _, rs, ra, w, fun θ1 H1 A1 v d e1 ra1 r1 w1 => lg _ _ _ _ ⟨θ1, d, σh, A1, _, r1, rs.ext e1, ra1, w1, k.nx.ext e1⟩⟩
theorem psh_asg {tg : Expr} {t : TEh} {g : TG} {gh : TGh} (lg : LG X.K g gh) (he : PE X e (lift X.K t)) (hg : PG X tg g) (hs : swapsWithSole [tg] e pos.line X.env = pure false := by rfl) (hw : swappedStores [tg] e X.env = pure none := by rfl)
    (h1 : (assignEach [tg] X.env).map (·.2) = [assign tg X.env] := by rfl) : PS X (.Assign [tg] e pos) (liftS X.K (hAsg t gh)) := (ps_asg he hg hs hw h1).imp (lift_asg lg)
theorem psh_set {i : Nat} {x : Str} {t : TEh} {pos' : Pos} (hN : X.N.Nodup) (hi : X.N[i]? = some x) (hx : Loc X.env.scope x) (he : PE X e (lift X.K t)) (hs : swapsWith e (some (.Name x pos')) pos.line X.env = pure false := by rfl) (hf : X.fn x = true ∨ X.env.scope.names.lookup x = some .local := by first | exact .inl rfl | exact .inr rfl | assumption) :
    PS X (.Assign [.Name x pos'] e pos) (liftS X.K (hAsg t (hgName i))) := (ps_set hN hi hx he hs hf).imp (lift_asg lg_name)
def hPar (i j : Nat) (t : TAh) : TSh := fun D σ A => t σ A fun ds A1 => match ds with | [d, e] => D.nx ((σ.set i (some d)).set j (some e)) A1 | _ => False
theorem psh_par {i j : Nat} {x y : Str} {t : TAh} {px py pt : Pos} {kt k2 pt2} (hc : X.calm = true) (hN : X.N.Nodup) (hi : X.N[i]? = some x) (hj : X.N[j]? = some y) (hij : i ≠ j)
    (hx : X.env.scope.names.lookup x = some .local) (hy : X.env.scope.names.lookup y = some .local) (ha : PA X [a, b] (liftA X.K t))
    (hw : swappedStores [.Tuple [.Name x px, .Name y py] kt pt] (.Tuple [a, b] k2 pt2) X.env = pure (some [x, y]))
    (hs : swapsWithSole [.Tuple [.Name x px, .Name y py] kt pt] (.Tuple [a, b] k2 pt2) pos.line X.env = pure false := by rfl) :
    PS X (.Assign [.Tuple [.Name x px, .Name y py] kt pt] (.Tuple [a, b] k2 pt2) pos) (liftS X.K (hPar i j t)) :=
  (ps_par hc hN hi hj hij hx hy ha hw hs).imp fun De σ H ⟨θ, σh, A, Dh, rs, ra, w, k⟩ => ⟨θ, σh, A, _, rs, ra, w, fun θ1 H1 A1 vs ds e1 ra1 r1 w1 => by
    split at w1
    · cases r1 with
      | cons r1 r2 =>
        cases r2 with
        | cons r2 r3 =>
          cases r3
          exact ⟨_, _, rfl, k.nx _ _ _ _ _ e1 (RS.set (.some r2) j (RS.set (.some r1) i (rs.ext e1))) ra1 w1⟩
    · exact w1.elim⟩
/-- name op= e, of whole numbers -/
def hAug (i : Nat) (t : TEh) (f : Int → Int → Int) : TSh := fun D σ A => getS σ i fun x => t σ A fun y A1 => match x, y with | .v (.int m), .v (.int n) => D.nx (σ.set i (some (.v (.int (f m n))))) A1 | _, _ => False
theorem psh_aug {i : Nat} {x : Str} {t : TEh} {op : Operator} {f : Int → Int → Int} {pos' : Pos} (hN : X.N.Nodup) (hi : X.N[i]? = some x) (hx : Loc X.env.scope x) (he : PE X e (lift X.K t)) (ho : PIp X op (ipI f)) (hf : X.fn x = true ∨ X.env.scope.names.lookup x = some .local := by first | exact .inl rfl | exact .inr rfl | assumption) :
    PS X (.AugAssign (.Name x pos') op e pos) (liftS X.K (hAug i t f)) :=
  (ps_aug hN hi hx he ho hf).imp fun De σ H ⟨θ, σh, A, Dh, rs, ra, w, k⟩ => by
    obtain ⟨v, d, h1, h2, h3⟩ := getS_ok rs w
    refine ⟨v, h1, θ, σh, A, _, rs, ra, h3, fun θ1 H1 A1 u y e1 ra1 r1 w1 => ?_⟩
    split at w1
    · cases h2
      cases r1
      exact ⟨_, _, rfl, rfl, k.nx _ _ _ _ _ e1 (RS.set (.some (.v _)) i (rs.ext e1)) ra1 w1⟩
    · exact w1.elim
/-! ### while -/
def hWhile (c : TTh) (tb : TSh) : TSh := fun D σ A => ∃ W : Nat → SH → OH → Prop, (∃ m, W m σ A) ∧ ∀ m σ A, W m σ A →
  c σ A fun b A1 => Br b (tb { D with nx := fun σ' A' => ∃ m', m' < m ∧ W m' σ' A', ct := fun σ' A' => ∃ m', m' < m ∧ W m' σ' A', bk := D.nx } σ A1) (D.nx σ A1)
theorem psh_while {c : Expr} {body : List Stmt} {tc : TTh} {tb : TSh} (hp : PassesOwn (model X.prog X.w) X.A X.env X.xe) (hc : PT X c (liftT X.K tc)) (hb : PSs X body (liftS X.K tb)) : PS X (.While c body [] pos) (liftS X.K (hWhile tc tb)) :=
  (ps_while hp hc hb).imp fun De σ H ⟨θ, σh, A, Dh, rs, ra, ⟨W, ⟨m0, w0⟩, turn⟩, k⟩ => by
    refine ⟨fun m σ' H' => ∃ θ' σh' A', Ext θ H θ' H' ∧ RS X.K θ' H' σ' σh' ∧ RA X.K θ' H' A' ∧ W m σh' A', ⟨m0, θ, σh, A, .refl _ _, rs, ra, w0⟩, ?_⟩
    rintro m σ1 H1 ⟨θ1, σh1, A1, e1, rs1, ra1, w1⟩
    refine ⟨θ1, σh1, A1, _, rs1, ra1, turn m σh1 A1 w1, fun θ2 H2 A2 b e2 ra2 w2 => ?_⟩
    cases b with
    | true =>
      rw [if_pos rfl]
      refine ⟨fun σ' H' => ∃ m', m' < m ∧ ∃ θ' σh' A', Ext θ H θ' H' ∧ RS X.K θ' H' σ' σh' ∧ RA X.K θ' H' A' ∧ W m' σh' A', fun _ _ z => z, ?_⟩
      refine ⟨θ2, σh1, A2, _, rs1.ext e2, ra2, w2.yes rfl, ⟨?_, (k.rt.ext e1).ext e2, (k.nx.ext e1).ext e2, ?_⟩⟩
      · rintro θ3 σ3 H3 σh3 A3 e3 rs3 ra3 ⟨m', hm, w3⟩
        exact ⟨m', hm, θ3, σh3, A3, (e1.trans e2).trans e3, rs3, ra3, w3⟩
      · rintro θ3 σ3 H3 σh3 A3 e3 rs3 ra3 ⟨m', hm, w3⟩
        exact ⟨m', hm, θ3, σh3, A3, (e1.trans e2).trans e3, rs3, ra3, w3⟩
    | false =>
      rw [if_neg Bool.false_ne_true]
      exact (k.nx.ext e1) _ _ _ _ _ e2 (rs1.ext e2) ra2 (w2.no rfl)
/-! ### what a for walks -/
structure Src where
  n : Nat
  item : Nat → Option D
  live : OH → Prop
def RJ (K : PySem.W.Frag) (θ0 : List Addr) (H0 : Hp) (J : It) (src : Src) : Prop := ∀ θ H A i, Ext θ0 H0 θ H → RA K θ H A → src.live A →
  (i < src.n → J.go i H ∧ ∀ x H', J.yld i H x H' → ∃ d, src.item i = some d ∧ Ext θ H θ H' ∧ RA K θ H' A ∧ RD K θ H' x d) ∧ (src.n ≤ i → J.stop i H)
abbrev TIh := SH → OH → (Src → OH → Prop) → Prop
def liftI (K : PySem.W.Frag) (ti : TIh) : TI := fun σ H R => ∃ θ σh A Rh, RS K θ H σ σh ∧ RA K θ H A ∧ ti σh A Rh ∧ ∀ θ' H' A' J src, Ext θ H θ' H' → RA K θ' H' A' → RJ K θ' H' J src → Rh src A' → R J H'
theorem _root_.L2.PI.imp {tg l : Expr} {w w' : TI} (h : PI X tg l w) (f : ∀ σ H R, w' σ H R → w σ H R) : PI X tg l w' := ⟨fun pins s σ H R I q => h.run pins s σ H R I (f σ H R q)⟩
/-- a list or a tuple -/
def iSeq (K : PySem.W.Frag) (tl : TE) : TI := fun σ H R => tl σ H fun x H1 => ∃ a, x = .ref a ∧ (((∃ xs, SqL K H1 a xs) ∧ R (Itl K a) H1) ∨ ((∃ xs, SqT K H1 a xs) ∧ R (Itt K a) H1))
theorem pi_seq {tg l : Expr} {tl : TE} (hl : PE X l tl) : PI X tg l (iSeq X.K tl) := by
  refine ⟨fun pins s σ H R I h => ?_⟩
  refine thn (hl.run pins s σ H _ I h) fun v s1 ⟨x, H1, I1, r1, q1⟩ => ?_
  obtain ⟨a, e, q⟩ := q1
  subst e
  cases r1
  rcases q with ⟨⟨xs, hq⟩, q⟩ | ⟨⟨xs, hq⟩, q⟩
  · obtain ⟨its, rv, p, hz⟩ := I1.list hq
    refine wpAny_pyIter_list p.isList ?_
    refine ⟨s1.heap.objs.size, [s1.heap.objs.size], _, _, H1, rfl, I1.kept (t' := s1.toks) fun b o e => Heap.get?_push_of_some _ e, turn_list a _, ⟨_, Heap.get?_push_size _ rfl, rfl, rfl⟩, fun b hb => ?_, q⟩
    have e : b = s1.heap.objs.size := by simpa using hb
    subst e
    exact I1.fpOk (Nat.le_refl _) (I1.hok.fresh (Nat.le_refl _))
  · obtain ⟨its, rv, p, hz⟩ := I1.tuple hq
    refine wpAny_pyIter_tuple (show s1.heap.IsTuple a its.toArray from p) ?_
    refine ⟨s1.heap.objs.size, [s1.heap.objs.size], _, _, H1, rfl, I1.kept (t' := s1.toks) fun b o e => Heap.get?_push_of_some _ e, turn_tuple a _, ⟨_, Heap.get?_push_size _ rfl, rfl, rfl⟩, fun b hb => ?_, q⟩
    have e : b = s1.heap.objs.size := by simpa using hb
    subst e
    exact I1.fpOk (Nat.le_refl _) (I1.hok.fresh (Nat.le_refl _))
def srcT (ds : List D) : Src := ⟨ds.length, fun i => ds[i]?, fun _ => True⟩
def srcL (k : Nat) (ds : List D) : Src := ⟨ds.length, fun i => ds[i]?, fun A => A[k]? = some (.lst ds)⟩
def srcI (ns : List Int) : Src := ⟨ns.length, fun i => ns[i]?.map fun n => .v (.int n), fun _ => True⟩
def srcR (lo : Int) (n : Nat) : Src := ⟨n, fun i => some (.v (.int (lo + i))), fun _ => True⟩
def hSrc : D → OH → (Src → OH → Prop) → Prop
  | .tup ds, A, R => R (srcT ds) A
  | .ptr k, A, R => ∃ ds, A[k]? = some (.lst ds) ∧ R (srcL k ds) A
  | .scr ns, A, R => R (srcI ns) A
  | _, _, _ => False
def hIt (t : TEh) : TIh := fun σ A R => t σ A fun d A1 => hSrc d A1 R
end
section
variable {K : PySem.W.Frag}
theorem rj_tup {θ0 : List Addr} {H0 : Hp} {a : Addr} {xs : List V} {ds : List D} (hs : SqT K H0 a xs) (r : RDs K θ0 H0 xs ds) : RJ K θ0 H0 (Itt K a) (srcT ds) := fun θ H A i e ra _ => by
  have hs' := SqT.stab hs e.stab
  have r' := r.ext e
  refine ⟨fun hi => ⟨⟨xs, xs[i]'(by rw [r.length]; exact hi), hs', List.getElem?_eq_getElem _⟩, fun x H' y => ?_⟩, fun hi => ⟨xs, hs', by rw [r.length]; exact hi⟩⟩
  obtain ⟨rfl, y⟩ := y
  obtain ⟨d, h1, h2⟩ := r'.get' (y xs hs')
  exact ⟨d, h1, .refl _ _, ra, h2⟩
theorem rj_lst {θ0 : List Addr} {H0 : Hp} {a : Addr} {k : Nat} {ds : List D} (hk : θ0[k]? = some a) : RJ K θ0 H0 (Itl K a) (srcL k ds) := fun θ H A i e ra (lv : A[k]? = some (.lst ds)) => by
  have hk' : θ[k]? = some a := by
    obtain ⟨t, rfl⟩ := e.pre
    rw [List.getElem?_append_left (List.getElem?_eq_some_iff.mp hk).1]; exact hk
  obtain ⟨xs, g, r⟩ := ra.ok _ _ _ hk' lv
  refine ⟨fun hi => ⟨⟨xs, xs[i]'(by rw [r.length]; exact hi), SqL.of g, List.getElem?_eq_getElem _⟩, fun x H' y => ?_⟩, fun hi => ⟨xs, SqL.of g, by rw [r.length]; exact hi⟩⟩
  obtain ⟨rfl, y⟩ := y
  obtain ⟨d, h1, h2⟩ := r.get' (y xs (SqL.of g))
  exact ⟨d, h1, .refl _ _, ra, h2⟩
theorem rj_scr {θ0 : List Addr} {H0 : Hp} {a : Addr} {ns : List Int} (hs : SqF K H0 a (ns.map V.int)) : RJ K θ0 H0 (Itl K a) (srcI ns) := fun θ H A i e ra _ => by
  have hs' := (SqF.stab hs e.stab).l
  refine ⟨fun hi => ⟨⟨ns.map V.int, (ns.map V.int)[i]'(by rw [List.length_map]; exact hi), hs', List.getElem?_eq_getElem _⟩, fun x H' y => ?_⟩, fun hi => ⟨_, hs', by rw [List.length_map]; exact hi⟩⟩
  obtain ⟨rfl, y⟩ := y
  have q := y _ hs'
  rw [List.getElem?_map] at q
  cases h : ns[i]? with
  | none => rw [h] at q; cases q
  | some n =>
    rw [h] at q
    cases q
    exact ⟨.v (.int n), by show (ns[i]?).map _ = _; rw [h]; rfl, .refl _ _, ra, .v _⟩
theorem rj_rng {θ0 : List Addr} {H0 : Hp} {lo : Int} {n : Nat} : RJ K θ0 H0 (Itr lo n) (srcR lo n) := fun θ H A i e ra _ => by
  refine ⟨fun hi => ⟨hi, fun x H' y => ?_⟩, fun hi => hi⟩
  obtain ⟨rfl, rfl⟩ := y
  exact ⟨_, rfl, .refl _ _, ra, .v _⟩
end
section
variable {X : Cx} {tg l a b : Expr} {p pos : Pos}
theorem pih_seq {t : TEh} (hl : PE X l (lift X.K t)) : PI X tg l (liftI X.K (hIt t)) := (pi_seq hl).imp fun σ H R ⟨θ, σh, A, Rh, rs, ra, w, k⟩ => ⟨θ, σh, A, _, rs, ra, w, fun θ1 H1 A1 v d e1 ra1 r1 w1 => by
  unfold hSrc at w1
  split at w1
  · cases r1 with
    | tup hs r => exact ⟨_, rfl, .inr ⟨⟨_, hs⟩, k _ _ _ _ _ e1 ra1 (rj_tup hs r) w1⟩⟩
  · obtain ⟨ds, h0, q⟩ := w1
    cases r1 with
    | ptr hi =>
      obtain ⟨xs, g, r⟩ := ra1.ok _ _ _ hi h0
      exact ⟨_, rfl, .inl ⟨⟨_, SqL.of g⟩, k _ _ _ _ _ e1 ra1 (rj_lst hi) q⟩⟩
  · cases r1 with
    | scr hs => exact ⟨_, rfl, .inl ⟨⟨_, hs.l⟩, k _ _ _ _ _ e1 ra1 (rj_scr hs) w1⟩⟩
  · exact w1.elim⟩
def hRng1 (t : TAh) : TIh := fun σ A R => t σ A fun ds A1 => match ds with | [.v (.int j)] => (-(2 ^ 62) ≤ j ∧ j < 2 ^ 62) ∧ R (srcR 0 j.toNat) A1 | _ => False
def hRng2 (t : TAh) : TIh := fun σ A R => t σ A fun ds A1 => match ds with | [.v (.int i), .v (.int j)] => (-(2 ^ 62) ≤ i ∧ i < 2 ^ 62 ∧ -(2 ^ 62) ≤ j ∧ j < 2 ^ 62) ∧ R (srcR i (j - i).toNat) A1 | _ => False
theorem RDs.ints1 {K : PySem.W.Frag} {θ : List Addr} {H : Hp} {vs : List V} {x : V} (r : RDs K θ H vs [.v x]) : vs = [x] := by
  cases r with
  | cons r t => cases t; cases r; rfl
theorem RDs.ints2 {K : PySem.W.Frag} {θ : List Addr} {H : Hp} {vs : List V} {x y : V} (r : RDs K θ H vs [.v x, .v y]) : vs = [x, y] := by
  cases r with
  | cons r t => cases r; rw [t.ints1]
theorem pih_range1 {t : TAh} (hg : Gl X "range") (hm : X.mg "range" = none) (ha : PA X [a] (liftA X.K t)) (hs : starEach [a] X.env = [(false, eval a X.env)] := by rfl) : PI X tg (.Call (.Name "range" p) [a] [] pos) (liftI X.K (hRng1 t)) :=
  (pi_range1 hg hm ha hs).imp fun σ H R ⟨θ, σh, A, Rh, rs, ra, w, k⟩ => ⟨θ, σh, A, _, rs, ra, w, fun θ1 H1 A1 v d e1 ra1 r1 w1 => by
    split at w1
    · exact ⟨_, r1.ints1, w1.1.1, w1.1.2, k _ _ _ _ _ e1 ra1 rj_rng w1.2⟩
    · exact w1.elim⟩
theorem pih_range2 {t : TAh} (hg : Gl X "range") (hm : X.mg "range" = none) (ha : PA X [a, b] (liftA X.K t)) (hs : starEach [a, b] X.env = [(false, eval a X.env), (false, eval b X.env)] := by rfl) (hs2 : starEach [b] X.env = [(false, eval b X.env)] := by rfl) :
    PI X tg (.Call (.Name "range" p) [a, b] [] pos) (liftI X.K (hRng2 t)) :=
  (pi_range2 hg hm ha hs hs2).imp fun σ H R ⟨θ, σh, A, Rh, rs, ra, w, k⟩ => ⟨θ, σh, A, _, rs, ra, w, fun θ1 H1 A1 v d e1 ra1 r1 w1 => by
    split at w1
    · exact ⟨_, _, r1.ints2, w1.1, k _ _ _ _ _ e1 ra1 rj_rng w1.2⟩
    · exact w1.elim⟩
/-! ### for -/
/-- over what stays as it is: Pv by the turn -/
def hFor (ti : TIh) (g : TGh) (tb : TSh) : TSh := fun D σ A => ti σ A fun src A1 => ∃ Pv : Nat → SH → OH → Prop, Pv 0 σ A1 ∧ (∀ i σ A, i ≤ src.n → Pv i σ A → src.live A) ∧
  (∀ i d σ A, i < src.n → src.item i = some d → Pv i σ A → g d σ A fun σ2 A2 => tb { D with nx := Pv (i + 1), ct := Pv (i + 1), bk := D.nx } σ2 A2) ∧ ∀ σ A, Pv src.n σ A → D.nx σ A
theorem psh_for {iter : Expr} {body : List Stmt} {ti : TIh} {g : TG} {gh : TGh} {tb : TSh} (lg : LG X.K g gh) (hp : PassesOwn (model X.prog X.w) X.A X.env X.xe) (hc : X.calm = true) (hi : PI X tg iter (liftI X.K ti)) (hg : PG X tg g) (hb : PSs X body (liftS X.K tb))
    (hs : ∀ x, foldedSetIterable iter X.env x = pure x := by intro _; rfl) : PS X (.For tg iter body [] pos) (liftS X.K (hFor ti gh tb)) :=
  (ps_for hp hc hi hg hb hs).imp fun De σ H ⟨θ, σh, A, Dh, rs, ra, w, k⟩ => ⟨θ, σh, A, _, rs, ra, w, fun θ1 H1 A1 J src e1 ra1 rj ⟨Pv, h0, hl, hs, hd⟩ => by
    refine ⟨fun i m σ' H' => m = src.n - i ∧ i ≤ src.n ∧ ∃ θ' σh' A', Ext θ1 H1 θ' H' ∧ RS X.K θ' H' σ' σh' ∧ RA X.K θ' H' A' ∧ Pv i σh' A', ⟨src.n, by simp, Nat.zero_le _, θ1, σh, A1, .refl _ _, rs.ext e1, ra1, h0⟩, ?_⟩
    rintro i m σ2 H2 ⟨rfl, hi, θ2, σh2, A2, e2, rs2, ra2, p2⟩
    obtain ⟨r1, r2⟩ := rj θ2 H2 A2 i e2 ra2 (hl i σh2 A2 hi p2)
    by_cases hlt : i < src.n
    · obtain ⟨go, yl⟩ := r1 hlt
      refine .inr ⟨go, fun σ' H' => ∃ θ' σh' A', Ext θ1 H1 θ' H' ∧ RS X.K θ' H' σ' σh' ∧ RA X.K θ' H' A' ∧ Pv (i + 1) σh' A', fun σ' H' q => ⟨src.n - (i + 1), by omega, rfl, hlt, q⟩, fun x H3 y => ?_⟩
      obtain ⟨d, hd, e3, ra3, r3⟩ := yl x H3 y
      refine lg _ _ _ _ ⟨θ2, d, σh2, A2, _, r3, rs2.ext e3, ra3, hs i d σh2 A2 hlt hd p2, fun θ4 σ4 H4 σh4 A4 e4 rs4 ra4 w4 => ?_⟩
      refine ⟨θ4, σh4, A4, _, rs4, ra4, w4, ⟨?_, (((k.rt.ext e1).ext e2).ext e3).ext e4, (((k.nx.ext e1).ext e2).ext e3).ext e4, ?_⟩⟩
      · exact fun θ5 σ5 H5 σh5 A5 e5 rs5 ra5 w5 => ⟨θ5, σh5, A5, ((e2.trans e3).trans e4).trans e5, rs5, ra5, w5⟩
      · exact fun θ5 σ5 H5 σh5 A5 e5 rs5 ra5 w5 => ⟨θ5, σh5, A5, ((e2.trans e3).trans e4).trans e5, rs5, ra5, w5⟩
    · have e : i = src.n := by omega
      subst e
      exact .inl ⟨r2 (Nat.le_refl _), ((k.nx.ext e1).ext e2) _ _ _ _ _ (.refl _ _) rs2 ra2 (hd _ _ p2)⟩⟩
/-! ### comprehensions -/
/-- a target that only writes the block's own slots -/
def Keeps (vs : List Nat) (g : TG) : Prop := ∀ v σ H Q, g v σ H Q → g v σ H fun σ' H' => L2.wipe σ' vs = L2.wipe σ vs ∧ Q σ' H'
def Keepss (vs : List Nat) (g : TGs) : Prop := ∀ v σ H Q, g v σ H Q → g v σ H fun σ' H' => L2.wipe σ' vs = L2.wipe σ vs ∧ Q σ' H'
theorem wipe_set {i : Nat} {x : Option V} : ∀ {vs : List Nat} {σ : L2.St}, i ∈ vs → L2.wipe (σ.set i x) vs = L2.wipe σ vs
  | [], _, h => nomatch h
  | v :: vs, σ, h => by
    show (L2.wipe (σ.set i x) vs).set v none = (L2.wipe σ vs).set v none
    by_cases q : i ∈ vs
    · rw [wipe_set q]
    · have e : i = v := (List.mem_cons.mp h).resolve_right q
      subst e
      have f : ∀ (ws : List Nat), (L2.wipe (σ.set i x) ws).set i none = (L2.wipe σ ws).set i none := fun ws => by
        induction ws with
        | nil => show (σ.set i x).set i none = σ.set i none; rw [List.set_set]
        | cons w ws ih =>
          show ((L2.wipe (σ.set i x) ws).set w none).set i none = ((L2.wipe σ ws).set w none).set i none
          by_cases c : w = i
          · subst c; rw [ih]
          · rw [List.set_comm _ _ c, ih, List.set_comm _ _ (Ne.symm c)]
      exact f vs
theorem keeps_name {i : Nat} {vs : List Nat} (h : i ∈ vs) : Keeps vs (gName i) := fun v σ H Q w => ⟨wipe_set h, w⟩
theorem keeps_nil {vs : List Nat} : Keepss vs gNil := fun v σ H Q w => ⟨w.1, rfl, w.2⟩
theorem keeps_cons {vs : List Nat} {g : TG} {gs : TGs} (h : Keeps vs g) (h' : Keepss vs gs) (mono : ∀ v σ H Q Q', (∀ σ H, Q σ H → Q' σ H) → g v σ H Q → g v σ H Q') : Keepss vs (gCons g gs) := fun v σ H Q ⟨x, r, e, w⟩ =>
  ⟨x, r, e, mono _ _ _ _ _ (fun σ1 H1 ⟨q1, q2⟩ => by
    have := h' _ _ _ _ q2
    rw [q1] at this
    exact this) (h _ _ _ _ w)⟩
theorem mono_name {i : Nat} : ∀ v σ H Q Q', (∀ σ H, Q σ H → Q' σ H) → gName i v σ H Q → gName i v σ H Q' := fun _ _ _ _ _ h w => h _ _ w
theorem keeps_tup {K : PySem.W.Frag} {vs : List Nat} {n : Nat} {gs : TGs} (h : Keepss vs gs) : Keeps vs (gTup K n gs) := fun v σ H Q ⟨a, xs, e, hs, hl, w⟩ => ⟨a, xs, e, hs, hl, h _ _ _ _ w⟩
theorem wipe_wipe (σ : L2.St) (vs : List Nat) : L2.wipe (L2.wipe σ vs) vs = L2.wipe σ vs := by
  have f : ∀ (ws us : List Nat), (∀ w ∈ ws, w ∈ us) → L2.wipe (L2.wipe σ ws) us = L2.wipe σ us := fun ws => by
    induction ws with
    | nil => intro us _; rfl
    | cons w ws ih =>
      intro us h
      show L2.wipe ((L2.wipe σ ws).set w none) us = _
      rw [wipe_set (h w List.mem_cons_self), ih us fun x hx => h x (List.mem_cons_of_mem _ hx)]
  exact f vs vs fun _ h => h
def hLc (ti : TIh) (g : TGh) (tt : TTh) (te : TEh) (vs : List Nat) : TEh := fun σ A Q => ti σ A fun src A1 => ∃ Pv : Nat → List D → OH → Prop, src.n ≤ 100000 ∧ Pv 0 [] A1 ∧ (∀ i acc A, i ≤ src.n → Pv i acc A → src.live A) ∧
  (∀ i d acc A, i < src.n → src.item i = some d → Pv i acc A → g d (wipeH σ vs) A fun σ2 A2 => tt σ2 A2 fun b A3 => Br b (te σ2 A3 fun e A4 => Pv (i + 1) (acc ++ [e]) A4) (Pv (i + 1) acc A3)) ∧ ∀ acc A, Pv src.n acc A → NewQ A (.lst acc) Q
/-- a list that no number stands for may be written -/
theorem RA.off {K : PySem.W.Frag} {θ : List Addr} {H : Hp} {A : OH} {a : Addr} {u : HO} (ra : RA K θ H A) (na : a ∉ θ) (mu : Mut (H a)) : RA K θ (upd H a u) A :=
  ⟨ra.len, ra.nd, fun i b o h1 h2 => by
    have ne : b ≠ a := fun z => na (by rw [← z]; exact List.mem_of_getElem? h1)
    have q := (ra.ok i b o h1 h2).stab (t := []) (stab_put (u := u) mu) (by rw [upd_ne ne]) fun dx e => by rw [upd_ne fun z => by subst z; rw [e] at mu; exact mu]; exact e
    rw [List.append_nil] at q
    exact q⟩
theorem Ext.off {θ θ' : List Addr} {H H' : Hp} {a : Addr} {u : HO} (e : Ext θ H θ' H') (ha : H a = none) (mu : Mut (H' a)) : Ext θ H θ' (upd H' a u) :=
  ⟨e.pre, e.new, fun b o nb h => by rw [upd_ne (ne_of_none h ha)]; exact e.stay b o nb h, e.stab.trans (stab_put mu)⟩
theorem RA.into {K : PySem.W.Frag} {θ : List Addr} {H : Hp} {A : OH} {a : Addr} {xs : List V} {ds : List D} (ra : RA K θ H A) (na : a ∉ θ) (h : H a = some (.lst xs)) (r : RDs K θ H xs ds) : RA K (θ ++ [a]) H (A ++ [.lst ds]) := by
  refine ⟨by rw [List.length_append, List.length_append, ra.len]; rfl, ?_, fun i b o h1 h2 => ?_⟩
  · rw [List.nodup_append]
    exact ⟨ra.nd, by simp, fun x hx y hy => by rw [List.mem_singleton.mp hy]; exact fun z => na (by rw [← z]; exact hx)⟩
  · by_cases hi : i < θ.length
    · rw [List.getElem?_append_left hi] at h1
      rw [List.getElem?_append_left (by rw [← ra.len]; exact hi)] at h2
      exact (ra.ok i b o h1 h2).stab (.refl H) rfl fun _ e => e
    · rw [List.getElem?_append_right (by omega)] at h1
      rw [List.getElem?_append_right (by rw [← ra.len]; omega)] at h2
      have e : i - θ.length = 0 := by
        have := (List.getElem?_eq_some_iff.mp h1).1
        simp at this
        omega
      rw [e] at h1
      rw [← ra.len, e] at h2
      simp at h1 h2
      subst h1 h2
      exact ⟨xs, h, r.stab (.refl H)⟩
theorem lift_lc {K : PySem.W.Frag} {ti : TIh} {g : TG} {gh : TGh} {tt : TTh} {te : TEh} {vs : List Nat} (lg : LG K g gh) (kp : Keeps vs g) (σ : L2.St) (H : Hp) (Q : VK) : lift K (hLc ti gh tt te vs) σ H Q → tLc (liftI K ti) g (liftT K tt) (lift K te) vs σ H Q :=
  fun ⟨θ, σh, A, Qh, rs, ra, w, k⟩ => ⟨θ, σh, A, _, rs, ra, w, fun θ1 H1 A1 J src e1 ra1 rj ⟨Pv, hn, h0, hl, hs, hd⟩ D hD => by
    have nD : ∀ {θ'' : List Addr} {H'' : Hp} {A'' : OH}, RA K θ'' H'' A'' → H'' D = none → D ∉ θ'' := fun ra' h z => by
      obtain ⟨u, hu, _⟩ := ra'.mut z
      rw [h] at hu; cases hu
    refine ⟨fun i m H' => m = src.n - i ∧ i ≤ src.n ∧ ∃ θ' A' acc xs, Ext θ1 H1 θ' H' ∧ RA K θ' H' A' ∧ H' D = some (.lst xs) ∧ RDs K θ' H' xs acc ∧ D ∉ θ' ∧ acc.length ≤ i ∧ Pv i acc A',
      ⟨src.n, by simp, Nat.zero_le _, θ1, A1, [], [], .new0 hD, ra1.new0 hD, upd_same, .nil, nD ra1 hD, Nat.le_refl _, h0⟩, ?_⟩
    rintro i m H2 ⟨rfl, hi, θ2, A2, acc, xs, e2, ra2, hx, rx, nD2, hacc, p2⟩
    obtain ⟨r1, r2⟩ := rj θ2 H2 A2 i e2 ra2 (hl i acc A2 hi p2)
    by_cases hlt : i < src.n
    · obtain ⟨go, yl⟩ := r1 hlt
      refine .inr ⟨go, fun H' => ∃ θ' A' acc xs, Ext θ1 H1 θ' H' ∧ RA K θ' H' A' ∧ H' D = some (.lst xs) ∧ RDs K θ' H' xs acc ∧ D ∉ θ' ∧ acc.length ≤ i + 1 ∧ Pv (i + 1) acc A', fun H' q => ⟨src.n - (i + 1), by omega, rfl, hlt, q⟩, fun x H3 y => ?_⟩
      obtain ⟨d, hd, e3, ra3, r3⟩ := yl x H3 y
      have keepD : ∀ {θ' : List Addr} {H' : Hp}, Ext θ2 H2 θ' H' → H' D = some (.lst xs) ∧ D ∉ θ' := fun {θ' H'} e => ⟨e.stay _ _ nD2 hx, fun z => by
        rcases e.new D z with q | q
        · exact nD2 q
        · rw [hx] at q; cases q⟩
      have turn : liftG K gh x (L2.wipe σ vs) H3 (fun σ4 H4 => liftT K tt σ4 H4 fun b H5 => if b = true then lift K te σ4 H5 fun y H6 => ∃ acc, H6 D = some (.lst acc) ∧ acc.length < sizeLine ∧ ∃ θ' A' acc' xs, Ext θ1 H1 θ' (upd H6 D (.lst (acc ++ [y]))) ∧ RA K θ' (upd H6 D (.lst (acc ++ [y]))) A' ∧ (upd H6 D (.lst (acc ++ [y]))) D = some (.lst xs) ∧ RDs K θ' (upd H6 D (.lst (acc ++ [y]))) xs acc' ∧ D ∉ θ' ∧ acc'.length ≤ i + 1 ∧ Pv (i + 1) acc' A'
          else ∃ θ' A' acc xs, Ext θ1 H1 θ' H5 ∧ RA K θ' H5 A' ∧ H5 D = some (.lst xs) ∧ RDs K θ' H5 xs acc ∧ D ∉ θ' ∧ acc.length ≤ i + 1 ∧ Pv (i + 1) acc A') := by
        refine ⟨θ2, d, wipeH σh vs, A2, _, r3, (((rs.ext e1).ext e2).ext e3).wipe vs, ra3, hs i d acc A2 hlt hd p2, fun θ4 σ4 H4 σh4 A4 e4 rs4 ra4 w4 => ?_⟩
        refine ⟨θ4, σh4, A4, _, rs4, ra4, w4, fun θ5 H5 A5 b e5 ra5 w5 => ?_⟩
        have e25 := (e3.trans e4).trans e5
        cases b with
        | true =>
          refine iteT ?_
          refine ⟨θ5, σh4, A5, _, rs4.ext e5, ra5, w5.yes rfl, fun θ6 H6 A6 v d' e6 ra6 r6 w6 => ?_⟩
          have e26 := e25.trans e6
          obtain ⟨hx6, nD6⟩ := keepD e26
          have mu : Mut (H6 D) := by rw [hx6]; exact True.intro
          have l1 := (rx.ext e26).length
          have ez : sizeLine = 16777216 := sizeLine_eq
          refine ⟨xs, hx6, by omega, θ6, A6, acc ++ [d'], xs ++ [v], (e2.trans e26).off hD mu, ra6.off nD6 mu, upd_same, ((rx.ext e26).append (.cons r6 .nil)).stab0 (stab_put mu), nD6, by rw [List.length_append]; simp; omega, w6⟩
        | false =>
          refine iteF ?_
          obtain ⟨hx5, nD5⟩ := keepD e25
          exact ⟨θ5, A5, acc, xs, e2.trans e25, ra5, hx5, rx.ext e25, nD5, by omega, w5.no rfl⟩
      have kept := kp _ _ _ _ (lg _ _ _ _ turn)
      rw [wipe_wipe] at kept
      exact kept
    · have e : i = src.n := by omega
      subst e
      refine .inl ⟨r2 (Nat.le_refl _), ?_⟩
      refine k (θ2 ++ [D]) H2 (A2 ++ [.lst acc]) (.ref D) (.ptr A2.length) ?_ (ra2.into nD2 hx rx) (.ptr (by rw [← ra2.len]; simp)) (hd acc A2 p2 _ _ ⟨rfl, rfl⟩)
      have e12 := e1.trans e2
      obtain ⟨t, ht⟩ := e12.pre
      refine ⟨⟨t ++ [D], by rw [ht, List.append_assoc]⟩, fun b hb => ?_, e12.stay, e12.stab⟩
      rcases List.mem_append.mp hb with q | q
      · exact e12.new b q
      · rw [List.mem_singleton.mp q]
        by_cases c : D ∈ θ
        · exact .inl c
        · cases q' : H D with
          | none => exact .inr rfl
          | some o => have := e1.stay D o c q'; rw [hD] at this; cases this⟩
variable {elt iter : Expr} {ifs : List Expr} {scope : Scope} {own : List (Str × Nat)}
theorem ptsh_nil : PTs X [] (liftT X.K fun _ A Q => Q true A) := ⟨fun pins s σ H Q I ⟨θ, σh, A, Qh, rs, ra, w, k⟩ => pts_nil.run pins s σ H Q I (k _ _ _ _ (.refl _ _) ra w)⟩
theorem ptsh_one {c : Expr} {t : TTh} (h : PT X c (liftT X.K t)) : PTs X [c] (liftT X.K t) := pts_one h
theorem ph_lc {ti : TIh} {g : TG} {gh : TGh} {tt : TTh} {te : TEh} (lg : LG X.K g gh) (kp : Keeps (own.map (·.2)) g) (hc : X.calm = true) (hN : X.N.Nodup) (hi : PI X tg iter (liftI X.K ti)) (ok : BlkOk X.N X.env.scope scope own)
    (hg : ∀ (s : Shared) (H : Hp) (C : Addr) (cl : List (Str × Addr)) (fp : List Addr), PG (X.blk s H scope (compEnvC scope cl C X.env) fp) tg g) (ht : ∀ (s : Shared) (H : Hp) (C : Addr) (cl : List (Str × Addr)) (fp : List Addr), PTs (X.blk s H scope (compEnvC scope cl C X.env) fp) ifs (liftT X.K tt))
    (he : ∀ (s : Shared) (H : Hp) (C : Addr) (cl : List (Str × Addr)) (fp : List Addr), PE (X.blk s H scope (compEnvC scope cl C X.env) fp) elt (lift X.K te)) (hs : ∀ x, foldedSetIterable iter X.env x = pure x := by intro _; rfl) :
    PE X (.ListComp elt [⟨tg, iter, ifs, 0⟩] scope pos) (lift X.K (hLc ti gh tt te (own.map (·.2)))) := (pe_lc hc hN hi ok hg ht he hs).imp (lift_lc lg kp)
theorem psh_setLc {i : Nat} {y : Str} {py : Pos} {spos : Pos} {ti : TIh} {g : TG} {gh : TGh} {tt : TTh} {te : TEh} (lg : LG X.K g gh) (kp : Keeps (own.map (·.2)) g) (hc : X.calm = true) (hN : X.N.Nodup) (hy : X.N[i]? = some y) (hyl : X.env.scope.names.lookup y = some .local)
    (hsw : swapsWith (.ListComp elt [⟨tg, iter, ifs, 0⟩] scope pos) (some (.Name y py)) spos.line X.env = pure true) (hi : PI X tg iter (liftI X.K ti)) (ok : BlkOk X.N X.env.scope scope own)
    (hg : ∀ (s : Shared) (H : Hp) (C : Addr) (cl : List (Str × Addr)) (fp : List Addr), PG (X.blk s H scope (compEnvC scope cl C X.env) fp) tg g) (ht : ∀ (s : Shared) (H : Hp) (C : Addr) (cl : List (Str × Addr)) (fp : List Addr), PTs (X.blk s H scope (compEnvC scope cl C X.env) fp) ifs (liftT X.K tt))
    (he : ∀ (s : Shared) (H : Hp) (C : Addr) (cl : List (Str × Addr)) (fp : List Addr), PE (X.blk s H scope (compEnvC scope cl C X.env) fp) elt (lift X.K te)) (hs : ∀ x, foldedSetIterable iter X.env x = pure x := by intro _; rfl) :
    PS X (.Assign [.Name y py] (.ListComp elt [⟨tg, iter, ifs, 0⟩] scope pos) spos) (liftS X.K (hAsg (hLc ti gh tt te (own.map (·.2))) (hgName i))) :=
  (ps_setLc hc hN hy hyl hsw hi ok hg ht he hs).imp fun De σ H w => by
    obtain ⟨θ, σh, A, Dh, rs, ra, w, k⟩ := w
    refine lift_lc lg kp σ H _ ⟨θ, σh, A, _, rs, ra, w, fun θ1 H1 A1 v d e1 ra1 r1 w1 => ?_⟩
    exact k.nx _ _ _ _ _ e1 (RS.set (.some r1) i (rs.ext e1)) ra1 w1
end
end Rp

namespace Rp
open PySem PySem.Spec PyProof.Rows L2
/-! ### ranges, sums -/
section
variable {X : Cx}
/-- range(n), as a value -/
theorem call_range1 : CallR X (.type "range") (fun vs H Q => ∃ n : Int, vs = [V.int n] ∧ ∀ p, H p = none → Q (.ref p) (upd H p (.rng 0 n))) := by
  intro pins s σ H vs us Q I r h
  obtain ⟨n, rfl, q⟩ := h
  cases r with
  | cons r1 rr =>
    cases rr
    obtain ⟨t, rfl⟩ := r1
    refine call_range_1 ⟨.ref s.heap.objs.size, upd H s.heap.objs.size (.rng 0 n), I.laid (a := s.heap.objs.size) (o := .rng 0 n) (fun b o e => Heap.get?_push_of_some _ e) (Nat.le_refl _) ?_, rfl, q _ (I.hok.fresh (Nat.le_refl _))⟩
    exact ⟨_, _, _, Heap.get?_push_size _ rfl⟩
/-- len of a range -/
theorem call_lenRng : CallR X (.builtin "len") (fun vs H Q => ∃ (a : Addr) (n : Nat), vs = [V.ref a] ∧ H a = some (.rng 0 n) ∧ n < 2 ^ 62 ∧ Q (.int n) H) := by
  intro pins s σ H vs us Q I r h
  obtain ⟨a, n, rfl, ha, hn, q⟩ := h
  cases r with
  | cons r1 rr =>
    cases rr
    cases r1
    obtain ⟨t1, t2, t3, ho⟩ := I.hok a _ ha
    refine call_len_range (n := n) ho ?_ (by omega) ⟨.int n, H, I.tok _, ⟨_, rfl⟩, q⟩
    unfold Builtin.Range.rangeSize
    simp
    try omega
/-- sum of a tuple of whole numbers -/
theorem call_sumT (hc : X.calm = true) : CallR X (.builtin "sum") (fun vs H Q => ∃ (a : Addr) (ns : List Int), vs = [V.ref a] ∧ SqT X.K H a (ns.map V.int) ∧ Q (.int ns.sum) H) := by
  intro pins s σ H vs us Q I r h
  obtain ⟨a, ns, rfl, ha, q⟩ := h
  cases r with
  | cons r1 rr =>
    cases rr
    cases r1
    obtain ⟨its, rv, hl, _⟩ := I.tuple ha
    have hi := rv.ints
    obtain ⟨xs, hx⟩ := hi.allInts.items
    have hn : numsOf its.toArray.toList = ns := by rw [show its.toArray.toList = its from rfl, hi.numsOf]
    rw [hx] at hl hn
    rw [nums_intItems] at hn
    refine PySem.W.ktm_sumG (I.ok.hd hc) hl fun h' tk t' hk => ?_
    rw [preSum_eq, List.take_of_length_le (by simp), hn]
    exact ⟨.int ns.sum, H, I.kept hk, ⟨_, rfl⟩, q⟩
end
/-! ### len(x), x's own __len__ -/
section
variable {X : Cx} {CX : CXT} {k : Nat} {f C : Addr} {fd : FuncData} {ps : List Str} {sp : Sp} {E : XK}
def rLenI (C : Addr) (sp : Sp) (E : XK) : List V → Hp → VK → Prop := fun xs H Q => ∃ (a dx : Addr) (fs : List (Str × V)), xs = [.ref a] ∧ H a = some (.ins C dx fs) ∧ sp [.ref a] H (fun v H' => ∃ n : Nat, v = .int n ∧ n < 2 ^ 62 ∧ Q (.int n) H') E
theorem call_lenI (F : FnOk X.prog X.w X.K X.mg X.base CX k f fd ps sp) (hs : PySem.W.findIn X.K (.ref C) "__len__" = some (some (.ref f))) (hf : PySem.W.isFn X.K (.ref f) = true) (hb : L2.Binds X.K fd ps []) (hx : Passes CX X E) (hr : Room (k + 1) X.A) :
    CallR X (.builtin "len") (rLenI C sp E) := by
  intro pins s σ H vs us Q I r h
  obtain ⟨a, dx, fs, rfl, ha, hsp⟩ := h
  cases r with
  | cons r1 rr =>
    cases rr
    cases r1
    obtain ⟨mA, J, _⟩ := ins_get I.hok ha
    obtain ⟨od, J, _⟩ := J.look
    obtain ⟨m, hF⟩ := I.fr
    have e0 : Env0 X.prog X.w X.K X.mg X.base X.A.in1 X.stack s H := by
      have e := I.env0
      exact ⟨e.frames, e.mod, e.bs, e.bsz, e.funs, e.frf, e.hok, e.bare⟩
    have hl := F.len _ _ _ _ hsp
    refine PySem.W.len_K hF I.ok.mod.kin J hs hf (wpAny_call (codeAny_mono (F.run X.A.in1 X.stack s H ⟨[.ref a], []⟩ [.ref a] [.ref a] _ E hr.in1 e0 (by
      have := hb s [.ref a] I.kIn (by simpa using hl)
      simpa using this) (.cons rfl .nil) hsp) fun r s' hq => ?_))
    cases r with
    | error e => exact hx pins σ H s e s' I hq
    | ok fl =>
      cases fl with
      | ret w =>
        obtain ⟨z, H', I', rz, n, ez, hn, q⟩ := I.after hq
        subst ez
        obtain ⟨t, rfl⟩ := rz
        show PySem.W.LenBack _ _ _
        exact ⟨⟨by omega, by omega⟩, .int n, H', I'.tok _, ⟨_, rfl⟩, q⟩
      | next => exact False.elim hq
      | brk => exact False.elim hq
      | cont => exact False.elim hq
end
/-! ### a def that may be called while an error is handled, too; nothing is being shown around it -/
structure RoomA (k : Nat) (A : Around) : Prop where
  dp : A.depth + 3 * k + 5 < recursionLimit
  un : A.units + 16 * k + 200 < cLine
theorem RoomA.of {k : Nat} {A : Around} (r : Room k A) : RoomA k A := ⟨r.dp, r.un⟩
structure FnA (P : Program) (w : World) (K : PySem.W.Frag) (mg : Str → Option Value) (base : Heap) (CX : CXT) (k : Nat) (f : Addr) (fd : FuncData) (ps : List Str) (sp : Sp) : Prop where
  len : ∀ vs H Q E, sp vs H Q E → vs.length = ps.length
  go : ∀ (A : Around) (outer : List Env) (s : Shared) (H : Hp) (args : Args) (us : List Value) (vs : List V) (Q : VK) (E : XK), A.guards = some [] → RoomA k A → Env0 P w K mg base A outer s H →
    BindsTo s fd args (ps.zip us) → Vals vs us → sp vs H Q E → codeAny (model P w) A (.call (.ref f) args) (CR CX outer P w H s Q E) s
/-- the body's context -/
def cxA (CX : CXT) (P : Program) (w : World) (K : PySem.W.Frag) (mg : Str → Option Value) (base : Heap) (N : List Str) (qual : Str) (scope : Scope) (f : Addr) (cd : Value) (A : Around) (outer : List Env) (s : Shared) (H : Hp) (E : XK) : Cx :=
  { cxOf CX P w K mg base N qual scope f cd A outer s H E with calm := false }
section
variable {P : Program} {w : World} {K : PySem.W.Frag} {mg : Str → Option Value} {base : Heap} {CX : CXT}
theorem startA {N ps : List Str} {qual : Str} {scope : Scope} {f : Addr} {cd : Value} {A : Around} {outer : List Env} {s s1 : Shared} {H : Hp} {E : XK} {us : List Value} {vs : List V}
    (S : FnScope N ps scope) (e0 : Env0 P w K mg base A outer s H) (hl : vs.length = ps.length) (r : Vals vs us)
    (x : InCallC s s.heap.objs.size (bindL (envOfC qual scope s.heap.objs.size f cd).kindOf (ps.zip us) fun _ => none) (cellsFrom (s.heap.objs.size + 1) scope.names []) (bindC (envOfC qual scope s.heap.objs.size f cd).kindOf (ps.zip us) fun _ => none) s1) :
    Inv (cxA CX P w K mg base N qual scope f cd A outer s H E) [] (start N vs) H s1 := by
  have I := inv_start (CX := CX) (A := { A with handled := none }) (E := E) S rfl (⟨e0.frames, e0.mod, e0.bs, e0.bsz, e0.funs, e0.frf, e0.hok, e0.bare⟩ : Env0 P w K mg base { A with handled := none } outer s H) hl r x
  have o := I.ok
  exact ⟨⟨o.mod, o.kind, o.glob, o.blt, o.above, o.inj, o.has, o.cab, (fun z => Bool.noConfusion (show false = true from z)), o.frames, o.stk, o.exf, o.bs, o.bsz, o.noex, o.exfs, o.funs, o.frf⟩, I.os, I.bare, I.base, I.loc, I.cell, I.free, I.freeC, I.pin, I.hok, I.len⟩
theorem okA {x qual : Str} {st : Stmt} {f : Addr} {fd : FuncData} {N ps : List Str} {k : Nat} {sp : Sp} (F : Fun K x qual st f fd) (S : FnScope N ps (defScope st)) (len : ∀ vs H Q E, sp vs H Q E → vs.length = ps.length)
    (hb : ∀ (cdv : Value) (A : Around) (outer : List Env) (s : Shared) (H : Hp) (vs : List V) (Q : VK) (E : XK), (A.deeper (envOfC qual (defScope st) s.heap.objs.size f cdv)).guards = some [] → (A.deeper (envOfC qual (defScope st) s.heap.objs.size f cdv)).units + 200 < cLine → sp vs H Q E →
      ∃ t, PSs (cxA CX P w K mg base N qual (defScope st) f cdv A outer s H E) (defBody st) t ∧ t { nx := fun _ H' => Q .non H', rt := Q } (start N vs) H) : FnA P w K mg base CX (k + 1) f fd ps sp := by
  obtain ⟨oc, od, kV, doc, pm, an, cdv, ct, osl, rfl, lk, hcd⟩ := F.ex
  refine ⟨len, fun A outer s H args us vs Q E gA room en bi rel want => ?_⟩
  have kept : ∀ b o, base.get? b = some o → s.heap.get? b = some o := fun b o e => (en.bs b o e).1
  have inK : K.In s.heap := en.mod.kin.keeps kept
  refine codeAny_call_function (by have := room.dp; omega) (inK _ _ lk) rfl S.co S.gen rfl (PySem.W.codeRec_of inK hcd) (bi _ _ _ _ ?_)
  refine wpAny_newFunctionEnv_cells S.kind (fun y hy => ?_) fun env he s1 made => ?_
  · rcases S.par y.1 (List.of_mem_zip (show (y.1, y.2) ∈ ps.zip us from hy)).1 with q | q
    · exact .inl q
    · exact .inr ⟨q, PySem.W.cellsFrom_some _ _ _ (.inl q)⟩
  subst he
  refine ⟨(en.mod.nolimit.keeps kept).keeps made.toInCall.keep, codeAny_func ?_⟩
  obtain ⟨t, body, reads⟩ := hb cdv A outer s H vs Q E (deeper_guards gA) (by have := room.un; show A.units + 3 + 200 < _; omega) want
  refine wpAny_mono (body.run [] s1 (start N vs) H _ (startA S en (len _ _ _ _ want) rel made) reads) (fun fl s' hs => ?_) fun e s' hs => hs
  cases fl with
  | ret u =>
    obtain ⟨v, σ', H', J, rv, q⟩ := hs
    exact ⟨v, H', J.os, J.bare, J.base, J.hok, rv, q⟩
  | next =>
    obtain ⟨σ', H', J, q⟩ := hs
    exact ⟨V.non, H', J.os, J.bare, J.base, J.hok, rfl, q⟩
  | brk => exact absurd hs (fun ⟨_, _, _, z⟩ => (z : False))
  | cont => exact absurd hs (fun ⟨_, _, _, z⟩ => (z : False))
end
/-! ### repr(x), {x!r} -/
section
variable {X : Cx} {CX : CXT} {k : Nat} {f C : Addr} {fd : FuncData} {ps : List Str} {sp : Sp} {E : XK}
/-- {x!r} of small data -/
def tFmtRD (K : PySem.W.Frag) (te : TE) : TE := fun σ H Q => te σ H fun x H1 => ∃ (a : Addr) (d : PyData), x = .ref a ∧ Dp K H1 x d ∧ Shw d ∧ Q (.str d.shown) H1
theorem pe_fmtRD {e : Expr} {te : TE} {pos : Pos} (gA : X.A.guards = some []) (hu : X.A.units + 64 < cLine) (he : PE X e te) : PE X (.FormattedValue e 114 none pos) (tFmtRD X.K te) := by
  refine ⟨fun pins s σ H Q I h => ?_⟩
  refine wpAny_FormattedValue_repr (thn (he.run pins s σ H _ I h) fun v s1 hv => ?_)
  obtain ⟨x, H1, I1, r1, a, d, rfl, hd, hw, q⟩ := hv
  obtain ⟨as, rd⟩ := Dp.reads I1 d (.ref a) _ hd r1
  cases r1
  have dp := hw.dp
  refine pyReprObj_of_reads rd hw.sh (PyData.noDict_hsm hw.nd) gA (by omega) (fun _ _ z => z) (fun h' u tk kp => ?_) hw.sz
  exact wpAny_formatField_str ⟨.str d.shown, H1, I1.kept kp, ⟨_, rfl⟩, q⟩ ⟨.str d.shown, H1, (I1.kept (t' := tk) kp).tok _, ⟨_, rfl⟩, q⟩ hw.sz
def rReprI (C : Addr) (sp : Sp) (E : XK) : List V → Hp → VK → Prop := fun xs H Q => ∃ (a dx : Addr) (fs : List (Str × V)), xs = [.ref a] ∧ H a = some (.ins C dx fs) ∧ sp [.ref a] H (fun v H' => ∃ t : Str, v = .str t ∧ Q (.str t) H') E
theorem call_reprI (F : FnA X.prog X.w X.K X.mg X.base CX k f fd ps sp) (hs : PySem.W.findIn X.K (.ref C) "__repr__" = some (some (.ref f))) (hf : PySem.W.isFn X.K (.ref f) = true) (hb : L2.Binds X.K fd ps []) (hx : Passes CX X E) (gA : X.A.guards = some []) (hr : RoomA (k + 1) X.A) :
    CallR X (.builtin "repr") (rReprI C sp E) := by
  intro pins s σ H vs us Q I r h
  obtain ⟨a, dx, fs, rfl, ha, hsp⟩ := h
  cases r with
  | cons r1 rr =>
    cases rr
    cases r1
    obtain ⟨mA, J, _⟩ := ins_get I.hok ha
    obtain ⟨od, J, _⟩ := J.look
    obtain ⟨m, hF⟩ := I.fr
    have e0 : Env0 X.prog X.w X.K X.mg X.base X.A.in1 X.stack s H := by
      have e := I.env0
      exact ⟨e.frames, e.mod, e.bs, e.bsz, e.funs, e.frf, e.hok, e.bare⟩
    have hl := F.len _ _ _ _ hsp
    have d1 := hr.dp
    have u1 := hr.un
    refine PySem.W.repr_K (by show X.A.units + 1 < _; omega) hF I.ok.mod.kin J hs hf (wpAny_call (codeAny_mono (F.go X.A.in1 X.stack s H ⟨[.ref a], []⟩ [.ref a] [.ref a] _ E gA ⟨by show X.A.depth + 3 * k + 5 < _; omega, by show X.A.units + 1 + 16 * k + 200 < _; omega⟩ e0 (by
      have := hb s [.ref a] I.kIn (by simpa using hl)
      simpa using this) (.cons rfl .nil) hsp) fun r s' hq => ?_))
    cases r with
    | error e => exact hx pins σ H s e s' I hq
    | ok fl =>
      cases fl with
      | ret w =>
        obtain ⟨z, H', I', rz, t, ez, q⟩ := I.after hq
        subst ez
        obtain ⟨tk, rfl⟩ := rz
        show PySem.W.StrBack _ _ _
        exact ⟨.str t, H', I', ⟨_, rfl⟩, q⟩
      | next => exact False.elim hq
      | brk => exact False.elim hq
      | cont => exact False.elim hq
/-- a dict of small numbers -/
def DkAt (H : Hp) (v : V) (d : PyData) : Prop := ∃ (a : Addr) (ns : List (Int × Int)), v = .ref a ∧ H a = some (.dK (ns.map fun p => (Sum.inl p.1, V.int p.2))) ∧ d = .dict (ns.map fun p => (.int p.1, .int p.2))
theorem dk_pairs {h : Heap} : ∀ {ns : List (Int × Int)} {vs : List (Key × Value)}, KV (ns.map fun p => ((Sum.inl p.1 : Key), V.int p.2)) vs → ∃ bs, PyProof.V.PairsRead h (fun k : Key => match k with | .inl i => PyData.int i | .inr x => PyData.str x) vs (ns.map fun p => (.int p.1, .int p.2)) bs
  | [], _, r => by
    cases r
    exact ⟨_, .nil⟩
  | p :: ns, _, r => by
    cases r with
    | @cons _ q _ qs e t =>
      obtain ⟨qk, qv⟩ := q
      obtain ⟨e1, tk, e2⟩ := e
      obtain ⟨bs, ih⟩ := dk_pairs (h := h) t
      simp only at e1 e2
      subst e1 e2
      exact ⟨_, .cons (.int _ _) ih⟩
theorem dk_reads {pins : List (Addr × Obj)} {σ : L2.St} {H : Hp} {s : Shared} {v : V} {d : PyData} {u : Value} (I : Inv X pins σ H s) (h : DkAt H v d) (r : RelV v u) : ∃ a as, u = .ref a ∧ Reads s.heap (.ref a) d as ∧ sysModules ∉ as := by
  obtain ⟨a, ns, rfl, ha, rfl⟩ := h
  cases r
  obtain ⟨_, hne, vs, rel, dd⟩ := I.hok a _ ha
  obtain ⟨bs, pr⟩ := dk_pairs (h := s.heap) rel
  have nb : bs = [] := by
    clear dd rel
    generalize hD : (ns.map fun p => (PyData.int p.1, PyData.int p.2)) = D at pr
    have : ∀ {kvs : List (Key × Value)} {D : List (PyData × PyData)} {bs : List Addr} {ns : List (Int × Int)}, (ns.map fun p => (PyData.int p.1, PyData.int p.2)) = D → PyProof.V.PairsRead s.heap (fun k : Key => match k with | .inl i => PyData.int i | .inr x => PyData.str x) kvs D bs → bs = [] := by
      intro kvs D bs ns e p
      induction p generalizing ns with
      | nil => rfl
      | @cons k' v' d' as kvs D bs r _ ih =>
        cases ns with
        | nil => cases e
        | cons n ns =>
          injection e with e1 e2
          injection e1 with _ e3
          subst e3
          cases r
          rw [ih e2]
          rfl
    exact this hD pr
  subst nb
  refine ⟨a, [a], rfl, PyProof.V.reads_dictOf (fun k key hk => ?_) dd pr, fun z => ?_⟩
  · rcases keyIs_shape hk with ⟨i, t, rfl, rfl⟩ | ⟨x, t, rfl, rfl⟩
    · exact .int _ _
    · exact .str _ _
  · rw [List.mem_singleton.mp z] at hne
    simp at hne
end
end Rp

/-! Calls, defs, built-ins, attributes over data. -/
namespace Rp
open PySem PySem.Spec PyProof.Rows L2
abbrev Sph := List D → OH → KH → Prop
def spOf (K : PySem.W.Frag) (n : Nat) (sp : Sph) : Sp := fun vs H Q _ => vs.length = n ∧ ∃ θ ds A Qh, RDs K θ H vs ds ∧ RA K θ H A ∧ sp ds A Qh ∧ Kt K θ H Q Qh
/-- a call is asked -/
structure Ask (sp : Sph) (ds : List D) (A : OH) (Q : KH) : Prop where
  h : sp ds A Q
def nArgs (n m : Nat) (p : Prop) : Prop := match Nat.beq n m with | true => p | false => False
theorem nArgs_ok {n m : Nat} {p : Prop} (h : nArgs n m p) : n = m ∧ p := by
  unfold nArgs at h
  split at h
  · rename_i e
    exact ⟨Nat.eq_of_beq_eq_true e, h⟩
  · exact h.elim
def hCall (n : Nat) (sp : Sph) (t : TAh) : TEh := fun σ A Q => t σ A fun ds A1 => nArgs ds.length n (Ask sp ds A1 Q)
section
variable {X : Cx} {CX : CXT} {k n : Nat} {f C : Addr} {fd : FuncData} {ps : List Str} {sp : Sph} {x m : Str} {p pos apos : Pos} {e o : Expr} {es : List Expr} {ta : TEh} {t : TAh}
theorem ph_call (F : FnG X.prog X.w X.K X.mg X.base CX0 k f fd ps (spOf X.K n sp)) (gA : X.A.guards = some []) (room : Room k X.A) (hg : Gl X x) (hm : X.mg x = some (.ref f)) (hk : PySem.W.keepIn X.K (.ref f) = true) (hb : L2.Binds X.K fd ps [])
    (ha : PA X (e :: es) (liftA X.K t)) (hdb : (x == ("__debug__" : Str)) = false := by decide) (hst : starEach (e :: es) X.env = (false, eval e X.env) :: starEach es X.env := by rfl)
    (hpl : (backTo pos (starEach es X.env)).any (·.1) = false := by rfl) : PE X (.Call (.Name x p) (e :: es) [] pos) (lift X.K (hCall n sp t)) :=
  (pe_callG (E := fun _ _ _ => False) F gA room hg hm hk hb pass0 ha hdb hst hpl).imp fun σ H Q ⟨θ, σh, A, Qh, rs, ra, w, k⟩ => ⟨θ, σh, A, _, rs, ra, w, fun θ1 H1 A1 vs ds e1 ra1 r1 w1 => by
    obtain ⟨hn, w1⟩ := nArgs_ok w1
    exact ⟨by rw [r1.length]; exact hn, θ1, ds, A1, Qh, r1, ra1, w1.h, k.ext e1⟩⟩
theorem ph_callO (F : FnOk X.prog X.w X.K X.mg X.base CX0 k f fd ps (spOf X.K n sp)) (room : Room k X.A) (hg : Gl X x) (hm : X.mg x = some (.ref f)) (hk : PySem.W.keepIn X.K (.ref f) = true) (hb : L2.Binds X.K fd ps [])
    (ha : PA X (e :: es) (liftA X.K t)) (hdb : (x == ("__debug__" : Str)) = false := by decide) (hst : starEach (e :: es) X.env = (false, eval e X.env) :: starEach es X.env := by rfl)
    (hpl : (backTo pos (starEach es X.env)).any (·.1) = false := by rfl) : PE X (.Call (.Name x p) (e :: es) [] pos) (lift X.K (hCall n sp t)) :=
  (pe_call (E := fun _ _ _ => False) F room hg hm hk hb .nil pass0 ha hdb hst hpl).imp fun σ H Q ⟨θ, σh, A, Qh, rs, ra, w, k⟩ => ⟨θ, σh, A, _, rs, ra, w, fun θ1 H1 A1 vs ds e1 ra1 r1 w1 => by
    obtain ⟨hn, w1⟩ := nArgs_ok w1
    rw [List.append_nil]
    exact ⟨by rw [r1.length]; exact hn, θ1, ds, A1, Qh, r1, ra1, w1.h, k.ext e1⟩⟩
/-- o.m(..) -/
def hMeth (C : Addr) (m : Str) (n : Nat) (sp : Sph) (ta : TEh) (t : TAh) : TEh := fun σ A Q => ta σ A fun x A1 => match x with
  | .ptr i => ∃ fs, A1[i]? = some (.ins C fs) ∧ fs.lookup m = none ∧ t σ A1 fun ds A2 => nArgs (ds.length + 1) n (Ask sp (.ptr i :: ds) A2 Q)
  | _ => False
theorem ph_meth {pl : Sem Bool} (he : PE X o (lift X.K ta)) (c : Cls X.K C) (hm : Meth X.K C m f) (F : FnOk X.prog X.w X.K X.mg X.base CX0 k f fd ps (spOf X.K n sp)) (hr : Room k X.A) (hb : L2.Binds X.K fd ps []) (ha : PA X (e :: es) (liftA X.K t))
    (hst : starEach (e :: es) X.env = (false, eval e X.env) :: starEach es X.env := by rfl) (hpl : (backTo pos (starEach es X.env)).any (·.1) = false := by rfl)
    (ht : eval (.Call (.Attribute o m apos) (e :: es) [] pos) X.env = (do
      let ov ← eval o X.env
      standAt apos.atName
      let (f, first) ← holding [ov] (getMethod ov m pl)
      callWith pos f first (backTo pos (starEach (e :: es) X.env)) (backToKw pos (keywordEach [] X.env))) := by rfl) :
    PE X (.Call (.Attribute o m apos) (e :: es) [] pos) (lift X.K (hMeth C m n sp ta t)) :=
  (pe_meth (pl := pl) (E := fun _ _ _ => False) he c hm F hr hb .nil pass0 ha hst hpl ht).imp fun σ H Q ⟨θ, σh, A, Qh, rs, ra, w, k⟩ => ⟨θ, σh, A, _, rs, ra, w, fun θ1 H1 A1 v d e1 ra1 r1 w1 => by
    split at w1
    · obtain ⟨fs, h1, h2, w1⟩ := w1
      cases r1 with
      | ptr hi =>
        obtain ⟨dx, xs, g, _, rf⟩ := ra1.ok _ _ _ hi h1
        refine ⟨_, dx, xs, rfl, g, rf.lookup_none h2, θ1, σh, A1, _, rs.ext e1, ra1, w1, fun θ2 H2 A2 vs ds e2 ra2 r2 w2 => ?_⟩
        obtain ⟨hn, w2⟩ := nArgs_ok w2
        rw [List.append_nil]
        exact ⟨by rw [List.length_cons, r2.length]; exact hn, θ2, _, A2, Qh, .cons ((RD.ptr hi).ext e2) r2, ra2, w2.h, (k.ext e1).ext e2⟩
    · exact w1.elim⟩
theorem ph_meth0 {pl : Sem Bool} (he : PE X o (lift X.K ta)) (c : Cls X.K C) (hm : Meth X.K C m f) (F : FnOk X.prog X.w X.K X.mg X.base CX0 k f fd ps (spOf X.K n sp)) (hr : Room k X.A) (hb : L2.Binds X.K fd ps [])
    (ht : eval (.Call (.Attribute o m apos) [] [] pos) X.env = (do
      let ov ← eval o X.env
      standAt apos.atName
      let (f, first) ← holding [ov] (getMethod ov m pl)
      callWith pos f first (backTo pos (starEach [] X.env)) (backToKw pos (keywordEach [] X.env))) := by rfl) :
    PE X (.Call (.Attribute o m apos) [] [] pos) (lift X.K (hMeth C m n sp ta hNil)) :=
  (pe_meth0 (pl := pl) (E := fun _ _ _ => False) he c hm F hr hb .nil pass0 ht).imp fun σ H Q ⟨θ, σh, A, Qh, rs, ra, w, k⟩ => ⟨θ, σh, A, _, rs, ra, w, fun θ1 H1 A1 v d e1 ra1 r1 w1 => by
    split at w1
    · obtain ⟨fs, h1, h2, w1⟩ := w1
      cases r1 with
      | ptr hi =>
        obtain ⟨dx, xs, g, _, rf⟩ := ra1.ok _ _ _ hi h1
        obtain ⟨hn, w2⟩ := nArgs_ok w1
        exact ⟨_, dx, xs, rfl, g, rf.lookup_none h2, hn, θ1, _, A1, Qh, .cons (.ptr hi) .nil, ra1, w2.h, k.ext e1⟩
    · exact w1.elim⟩
/-- C(..): a new instance, then __init__ -/
def hMake (C : Addr) (n : Nat) (sp : Sph) (t : TAh) : TEh := fun σ A Q => t σ A fun ds A1 => nArgs (ds.length + 1) n (∀ i A2, New A1 i (.ins C []) A2 → Ask sp (.ptr i :: ds) A2 fun r A3 => r = .v .non ∧ Q (.ptr i) A3)
theorem ph_make (M : Mk X.K C f) (F : FnOk X.prog X.w X.K X.mg X.base CX0 k f fd ps (spOf X.K n sp)) (hr : Room (k + 1) X.A) (hg : Gl X x) (hm : X.mg x = some (.ref C)) (hb : L2.Binds X.K fd ps [])
    (ha : PA X (e :: es) (liftA X.K t)) (hdb : (x == ("__debug__" : Str)) = false := by decide) (he : starEach (e :: es) X.env = (false, eval e X.env) :: starEach es X.env := by rfl) (hpl : (backTo pos (starEach es X.env)).any (·.1) = false := by rfl) :
    PE X (.Call (.Name x p) (e :: es) [] pos) (lift X.K (hMake C n sp t)) :=
  (pe_make (E := fun _ _ _ => False) M F hr hg hm hb .nil pass0 ha hdb he hpl).imp fun σ H Q ⟨θ, σh, A, Qh, rs, ra, w, k⟩ => ⟨θ, σh, A, _, rs, ra, w, fun θ1 H1 A1 vs ds e1 ra1 r1 w1 x dx hx hdx ne => by
    obtain ⟨hn, w1⟩ := nArgs_ok w1
    have hs : Same H1 (upd (upd H1 dx (.own x)) x (.ins C dx [])) := fun b u e => by rw [upd_ne (ne_of_none e hx), upd_ne (ne_of_none e hdx)]; exact e
    have hi : (θ1 ++ [x])[A1.length]? = some x := by rw [← ra1.len]; simp
    have e2 : Ext θ1 H1 (θ1 ++ [x]) (upd (upd H1 dx (.own x)) x (.ins C dx [])) := .add hx hs
    rw [List.append_nil]
    refine ⟨by rw [List.length_cons, r1.length]; exact hn, θ1 ++ [x], .ptr A1.length :: ds, A1 ++ [.ins C []], _, .cons (.ptr hi) (r1.ext e2), ra1.add (o := .ins C []) hx hs ⟨dx, [], upd_same, by rw [upd_ne ne, upd_same], .nil⟩, (w1 _ _ ⟨rfl, rfl⟩).h, fun θ3 H3 A3 v d e3 ra3 r3 q3 => ?_⟩
    obtain ⟨rfl, q⟩ := q3
    cases r3
    exact ⟨rfl, k _ _ _ _ _ ((e1.trans e2).trans e3) ra3 ((RD.ptr hi).ext e3) q⟩⟩
end
/-! ### a def by its body -/
section
variable {P : Program} {w : World} {K : PySem.W.Frag} {mg : Str → Option Value} {base : Heap}
/-- what is wanted behind a def -/
def endH (Q : KH) : Eh := { nx := fun _ A => Q (.v .non) A, rt := Q }
theorem body_h {ps N : List Str} {sp : Sph} {t : TSh} {vs : List V} {H : Hp} {Q : VK} {E : XK} (h : spOf K ps.length sp vs H Q E) (go : ∀ ds A Q, sp ds A Q → t (endH Q) (startH N.length ds) A) : liftS K t { nx := fun _ H' => Q .non H', rt := Q } (L2.start N vs) H := by
  obtain ⟨_, θ, ds, A, Qh, r, ra, w, k⟩ := h
  exact ⟨θ, _, A, endH Qh, .start r, ra, go ds A Qh w, ⟨fun θ' σ' H' σh' A' e rs' ra' q => k _ _ _ _ _ e ra' (.v _) q, k, fun θ' σ' H' σh' A' e rs' ra' q => q, fun θ' σ' H' σh' A' e rs' ra' q => q⟩⟩
theorem okH {x qual : Str} {st : Stmt} {f : Addr} {fd : FuncData} {N ps : List Str} {k : Nat} {sp : Sph} (F : Fun K x qual st f fd) (S : FnScope N ps (defScope st))
    (hb : ∀ (cdv : Value) (A : Around) (outer : List Env) (s : Shared) (H : Hp) (E : XK), Room k (A.deeper (envOfC qual (defScope st) s.heap.objs.size f cdv)) →
      ∃ t, PSs (cxOf CX0 P w K mg base N qual (defScope st) f cdv A outer s H E).nox (defBody st) (liftS K t) ∧ ∀ ds A Q, sp ds A Q → t (endH Q) (startH N.length ds) A) : FnOk P w K mg base CX0 (k + 1) f fd ps (spOf K ps.length sp) :=
  F.ok S (fun vs H Q E h => h.1) fun cdv A outer s H vs Q E room h => by
    obtain ⟨t, body, go⟩ := hb cdv A outer s H E room
    exact ⟨_, body, body_h h go⟩
theorem okGH {x qual : Str} {st : Stmt} {f : Addr} {fd : FuncData} {N ps : List Str} {k : Nat} {sp : Sph} (F : Fun K x qual st f fd) (S : FnScope N ps (defScope st))
    (hb : ∀ (cdv : Value) (A : Around) (outer : List Env) (s : Shared) (H : Hp) (E : XK), (A.deeper (envOfC qual (defScope st) s.heap.objs.size f cdv)).guards = some [] → Room k (A.deeper (envOfC qual (defScope st) s.heap.objs.size f cdv)) →
      ∃ t, PSs (cxOf CX0 P w K mg base N qual (defScope st) f cdv A outer s H E).nox (defBody st) (liftS K t) ∧ ∀ ds A Q, sp ds A Q → t (endH Q) (startH N.length ds) A) : FnG P w K mg base CX0 (k + 1) f fd ps (spOf K ps.length sp) :=
  okG F S (fun vs H Q E h => h.1) fun cdv A outer s H vs Q E gA room h => by
    obtain ⟨t, body, go⟩ := hb cdv A outer s H E gA room
    exact ⟨_, body, body_h h go⟩
end
/-- the law's own promise -/
def spLawH : Sph := fun ds A Q => ∃ ns : List Int, ds = [.scr ns] ∧ ns.length ≤ 63 ∧ ∀ A', Q (.v (.bl true)) A'
theorem lawH {K : PySem.W.Frag} {H : Hp} {a : Addr} {ns : List Int} (hn : ns.length ≤ 63) (on : Only H) (hS : SqL K H a (ns.map V.int)) : spOf K 1 spLawH [.ref a] H (fun v _ => v = .bl true) fun _ _ _ => False := by
  have hf : SqF K H a (ns.map V.int) := by
    rcases hS with (h | h) | h
    · rcases on a with q | ⟨o, xs, q⟩
      · rw [h] at q; cases q
      · rw [h] at q; cases q
    · exact .inl h
    · exact .inr h
  refine ⟨rfl, [], [.scr ns], [], fun d _ => d = .v (.bl true), .cons (.scr hf) .nil, ⟨rfl, List.nodup_nil, fun i a o h => by simp at h⟩, ⟨ns, rfl, hn, fun _ => rfl⟩, fun θ' H' A' v d e ra r q => ?_⟩
  subst q
  cases r
  rfl
/-! ### built-ins -/
def LC (K : PySem.W.Frag) (r : List V → Hp → VK → Prop) (rh : List D → OH → KH → Prop) : Prop := ∀ θ H A xs ds Q Qh, RDs K θ H xs ds → RA K θ H A → rh ds A Qh → Kt K θ H Q Qh → r xs H Q
def hCB (rh : List D → OH → KH → Prop) (t : TAh) : TEh := fun σ A Q => t σ A fun ds A1 => rh ds A1 Q
section
variable {X : Cx} {x : Str} {p pos : Pos} {e : Expr} {es : List Expr} {t : TAh} {id T : String} {r : List V → Hp → VK → Prop} {rh : List D → OH → KH → Prop}
theorem lift_cb {K : PySem.W.Frag} (l : LC K r rh) (σ : L2.St) (H : Hp) (Q : VK) : lift K (hCB rh t) σ H Q → tCB r (liftA K t) σ H Q := fun ⟨θ, σh, A, Qh, rs, ra, w, k⟩ =>
  ⟨θ, σh, A, _, rs, ra, w, fun θ1 H1 A1 vs ds e1 ra1 r1 w1 => l _ _ _ _ _ _ _ r1 ra1 w1 (k.ext e1)⟩
theorem ph_callB (l : LC X.K r rh) (hc : CallR X (.builtin id) r) (hg : Gl X x) (hm : X.mg x = none) (hv : bootBuiltins x = some (.builtin id)) (ha : PA X (e :: es) (liftA X.K t)) (hn : x ≠ "__name__" := by decide) (hdb : (x == ("__debug__" : Str)) = false := by decide)
    (he : starEach (e :: es) X.env = (false, eval e X.env) :: starEach es X.env := by rfl) (hpl : (backTo pos (starEach es X.env)).any (·.1) = false := by rfl) : PE X (.Call (.Name x p) (e :: es) [] pos) (lift X.K (hCB rh t)) :=
  (pe_callB hc hg hm hv ha hn hdb he hpl).imp (lift_cb l)
theorem ph_callTy (l : LC X.K r rh) (hc : CallR X (.type T) r) (hg : Gl X x) (hm : X.mg x = none) (hv : bootBuiltins x = some (.type T)) (ha : PA X (e :: es) (liftA X.K t)) (hn : x ≠ "__name__" := by decide) (hdb : (x == ("__debug__" : Str)) = false := by decide)
    (he : starEach (e :: es) X.env = (false, eval e X.env) :: starEach es X.env := by rfl) (hpl : (backTo pos (starEach es X.env)).any (·.1) = false := by rfl) : PE X (.Call (.Name x p) (e :: es) [] pos) (lift X.K (hCB rh t)) :=
  (pe_callTy hc hg hm hv ha hn hdb he hpl).imp (lift_cb l)
variable {K : PySem.W.Frag}
theorem RDs.one {θ : List Addr} {H : Hp} {xs : List V} {d : D} (r : RDs K θ H xs [d]) : ∃ x, xs = [x] ∧ RD K θ H x d := by
  cases r with
  | cons h t => cases t; exact ⟨_, rfl, h⟩
theorem RDs.two {θ : List Addr} {H : Hp} {xs : List V} {d e : D} (r : RDs K θ H xs [d, e]) : ∃ x y, xs = [x, y] ∧ RD K θ H x d ∧ RD K θ H y e := by
  cases r with
  | cons h t =>
    obtain ⟨y, rfl, hy⟩ := t.one
    exact ⟨_, _, rfl, h, hy⟩
def hLen : List D → OH → KH → Prop
  | [.tup es], A, Q => Q (.v (.int es.length)) A
  | [.ptr k], A, Q => ∃ es, A[k]? = some (.lst es) ∧ Q (.v (.int es.length)) A
  | [.scr ns], A, Q => Q (.v (.int ns.length)) A
  | [.v (.str y)], A, Q => y.length ≤ sizeLine ∧ Q (.v (.int y.length)) A
  | _, _, _ => False
theorem l_len : LC K (fun xs H Q => ∃ x n, xs = [x] ∧ LenV K x H n ∧ Q (.int n) H) hLen := by
  intro θ H A xs ds Q Qh r ra w k
  unfold hLen at w
  split at w
  · obtain ⟨x, rfl, rx⟩ := r.one
    cases rx with
    | tup hs r' => exact ⟨_, _, rfl, .inr ⟨_, hs, rfl⟩, by rw [r'.length]; exact k.here ra (.v _) w⟩
  · obtain ⟨es, h0, q⟩ := w
    obtain ⟨x, rfl, rx⟩ := r.one
    cases rx with
    | ptr hi =>
      obtain ⟨xs, g, r'⟩ := ra.ok _ _ _ hi h0
      exact ⟨_, _, rfl, .inl ⟨_, SqL.of g, rfl⟩, by rw [r'.length]; exact k.here ra (.v _) q⟩
  · obtain ⟨x, rfl, rx⟩ := r.one
    cases rx with
    | scr hs => exact ⟨_, _, rfl, .inl ⟨_, hs.l, rfl⟩, by rw [List.length_map]; exact k.here ra (.v _) w⟩
  · obtain ⟨x, rfl, rx⟩ := r.one
    cases rx
    exact ⟨_, _, rfl, ⟨w.1, rfl⟩, k.here ra (.v _) w.2⟩
  · exact w.elim
def hInt : List D → OH → KH → Prop
  | [.v (.int i)], A, Q => Q (.v (.int i)) A
  | [.v (.bl b)], A, Q => Q (.v (.int (if b = true then 1 else 0))) A
  | _, _, _ => False
theorem l_int : LC K (fun xs H Q => (∃ i, xs = [.int i] ∧ Q (.int i) H) ∨ ∃ k, xs = [.bl k] ∧ Q (.int (if k then 1 else 0)) H) hInt := by
  intro θ H A xs ds Q Qh r ra w k
  unfold hInt at w
  split at w
  · obtain ⟨x, rfl, rx⟩ := r.one
    cases rx
    exact .inl ⟨_, rfl, k.here ra (.v _) w⟩
  · obtain ⟨x, rfl, rx⟩ := r.one
    cases rx
    exact .inr ⟨_, rfl, k.here ra (.v _) w⟩
  · exact w.elim
def hList : List D → OH → KH → Prop
  | [.tup es], A, Q => NewQ A (.lst es) Q
  | [.ptr k], A, Q => ∃ es, A[k]? = some (.lst es) ∧ NewQ A (.lst es) Q
  | [.scr ns], A, Q => NewQ A (.lst (ns.map fun n => .v (.int n))) Q
  | _, _, _ => False
theorem l_list : LC K (fun xs H Q => ∃ p ys, xs = [.ref p] ∧ (SqL K H p ys ∨ SqT K H p ys) ∧ ∀ l, H l = none → Q (.ref l) (upd H l (.lst ys))) hList := by
  intro θ H A xs ds Q Qh r ra w k
  unfold hList at w
  split at w
  · obtain ⟨x, rfl, rx⟩ := r.one
    cases rx with
    | tup hs r' => exact ⟨_, _, rfl, .inr hs, fun l hl => k.lst ra r' w hl⟩
  · obtain ⟨es, h0, q⟩ := w
    obtain ⟨x, rfl, rx⟩ := r.one
    cases rx with
    | ptr hi =>
      obtain ⟨xs, g, r'⟩ := ra.ok _ _ _ hi h0
      exact ⟨_, _, rfl, .inl (SqL.of g), fun l hl => k.lst ra r' q hl⟩
  · obtain ⟨x, rfl, rx⟩ := r.one
    cases rx with
    | scr hs => exact ⟨_, _, rfl, .inl hs.l, fun l hl => k.lst ra (RDs.scal V.int _) w hl⟩
  · exact w.elim
def hTuple : List D → OH → KH → Prop
  | [.tup es], A, Q => Q (.tup es) A
  | [.ptr k], A, Q => ∃ es, A[k]? = some (.lst es) ∧ Q (.tup es) A
  | _, _, _ => False
theorem l_tuple : LC K (fun xs H Q => ∃ p ys, xs = [.ref p] ∧ ((SqL K H p ys ∧ ∀ l, H l = none → Q (.ref l) (upd H l (.tup ys))) ∨ (SqT K H p ys ∧ Q (.ref p) H))) hTuple := by
  intro θ H A xs ds Q Qh r ra w k
  unfold hTuple at w
  split at w
  · obtain ⟨x, rfl, rx⟩ := r.one
    cases rx with
    | tup hs r' => exact ⟨_, _, rfl, .inr ⟨hs, k.here ra (.tup hs r') w⟩⟩
  · obtain ⟨es, h0, q⟩ := w
    obtain ⟨x, rfl, rx⟩ := r.one
    cases rx with
    | ptr hi =>
      obtain ⟨xs, g, r'⟩ := ra.ok _ _ _ hi h0
      exact ⟨_, _, rfl, .inl ⟨SqL.of g, fun l hl => k.tup ra r' q hl⟩⟩
  · exact w.elim
/-- numbers as values -/
abbrev dI (ns : List Int) : List D := ns.map fun n => .v (.int n)
def rSumA (K : PySem.W.Frag) : List V → Hp → VK → Prop := fun vs H Q => rSum K vs H Q ∨ ∃ (a : Addr) (ns : List Int), vs = [V.ref a] ∧ SqT K H a (ns.map V.int) ∧ Q (.int ns.sum) H
theorem call_sumA (hc : X.calm = true) : CallR X (.builtin "sum") (rSumA X.K) := (cr_sum hc).or (call_sumT hc)
def hSum : List D → OH → KH → Prop
  | [.tup es], A, Q => ∃ ns, es = dI ns ∧ Q (.v (.int ns.sum)) A
  | [.ptr k], A, Q => ∃ ns, A[k]? = some (.lst (dI ns)) ∧ Q (.v (.int ns.sum)) A
  | [.scr ns], A, Q => Q (.v (.int ns.sum)) A
  | _, _, _ => False
theorem l_sum : LC K (rSumA K) hSum := by
  intro θ H A xs ds Q Qh r ra w k
  unfold hSum at w
  split at w
  · obtain ⟨ns, rfl, q⟩ := w
    obtain ⟨x, rfl, rx⟩ := r.one
    cases rx with
    | tup hs r' =>
      rw [r'.of_scal V.int] at hs
      exact .inr ⟨_, ns, rfl, hs, k.here ra (.v _) q⟩
  · obtain ⟨ns, h0, q⟩ := w
    obtain ⟨x, rfl, rx⟩ := r.one
    cases rx with
    | ptr hi =>
      obtain ⟨xs, g, r'⟩ := ra.ok _ _ _ hi h0
      rw [r'.of_scal V.int] at g
      exact .inl ⟨_, ns, rfl, SqL.of g, k.here ra (.v _) q⟩
  · obtain ⟨x, rfl, rx⟩ := r.one
    cases rx with
    | scr hs => exact .inl ⟨_, _, rfl, hs.l, k.here ra (.v _) w⟩
  · exact w.elim
def rMaxA (K : PySem.W.Frag) : List V → Hp → VK → Prop := fun xs H Q => (∃ i j, xs = [.int i, .int j] ∧ Q (.int (if j > i then j else i)) H) ∨ rMax K xs H Q
theorem call_maxA (hc : X.calm = true) : CallR X (.builtin "max") (rMaxA X.K) := (call_max2 hc).or (cr_max hc)
def rMinA (K : PySem.W.Frag) : List V → Hp → VK → Prop := fun xs H Q => (∃ i j, xs = [.int i, .int j] ∧ Q (.int (if j < i then j else i)) H) ∨ rMin K xs H Q
theorem call_minA (hc : X.calm = true) : CallR X (.builtin "min") (rMinA X.K) := (call_min2 hc).or (cr_min hc)
def hMax : List D → OH → KH → Prop
  | [.v (.int i), .v (.int j)], A, Q => Q (.v (.int (max i j))) A
  | [.ptr k], A, Q => ∃ ns, A[k]? = some (.lst (dI ns)) ∧ 0 < ns.length ∧ ∀ m, m ∈ ns → (∀ y, y ∈ ns → y ≤ m) → Q (.v (.int m)) A
  | _, _, _ => False
theorem l_max : LC K (rMaxA K) hMax := by
  intro θ H A xs ds Q Qh r ra w k
  unfold hMax at w
  split at w
  · rename_i i j
    obtain ⟨x, y, rfl, rx, ry⟩ := r.two
    cases rx
    cases ry
    have e : (if j > i then j else i) = max i j := by rw [Int.max_def]; split <;> split <;> omega
    refine .inl ⟨_, _, rfl, ?_⟩
    rw [e]
    exact k.here ra (.v _) w
  · obtain ⟨ns, h0, h1, q⟩ := w
    obtain ⟨x, rfl, rx⟩ := r.one
    cases rx with
    | ptr hi =>
      obtain ⟨xs, g, r'⟩ := ra.ok _ _ _ hi h0
      rw [r'.of_scal V.int] at g
      exact .inr ⟨_, ns, rfl, SqL.of g, h1, fun m hm hle => k.here ra (.v _) (q m hm hle)⟩
  · exact w.elim
def hMin : List D → OH → KH → Prop
  | [.v (.int i), .v (.int j)], A, Q => Q (.v (.int (min i j))) A
  | [.ptr k], A, Q => ∃ ns, A[k]? = some (.lst (dI ns)) ∧ 0 < ns.length ∧ ∀ m, m ∈ ns → (∀ y, y ∈ ns → m ≤ y) → Q (.v (.int m)) A
  | _, _, _ => False
theorem l_min : LC K (rMinA K) hMin := by
  intro θ H A xs ds Q Qh r ra w k
  unfold hMin at w
  split at w
  · rename_i i j
    obtain ⟨x, y, rfl, rx, ry⟩ := r.two
    cases rx
    cases ry
    have e : (if j < i then j else i) = min i j := by rw [Int.min_def]; split <;> split <;> omega
    refine .inl ⟨_, _, rfl, ?_⟩
    rw [e]
    exact k.here ra (.v _) w
  · obtain ⟨ns, h0, h1, q⟩ := w
    obtain ⟨x, rfl, rx⟩ := r.one
    cases rx with
    | ptr hi =>
      obtain ⟨xs, g, r'⟩ := ra.ok _ _ _ hi h0
      rw [r'.of_scal V.int] at g
      exact .inr ⟨_, ns, rfl, SqL.of g, h1, fun m hm hle => k.here ra (.v _) (q m hm hle)⟩
  · exact w.elim
def hAbs : List D → OH → KH → Prop
  | [.v (.int i)], A, Q => Q (.v (.int (if i < 0 then -i else i))) A
  | _, _, _ => False
theorem l_abs : LC K (fun xs H Q => ∃ i, xs = [.int i] ∧ Q (.int (if i < 0 then -i else i)) H) hAbs := by
  intro θ H A xs ds Q Qh r ra w k
  unfold hAbs at w
  split at w
  · obtain ⟨x, rfl, rx⟩ := r.one
    cases rx
    exact ⟨_, rfl, k.here ra (.v _) w⟩
  · exact w.elim
/-! ### data: == , !=, repr -/
mutual
inductive DP (A : OH) : D → PyData → Prop
  | non : DP A (.v .non) .none
  | bl (b : Bool) : DP A (.v (.bl b)) (.bool b)
  | int (i : Int) : DP A (.v (.int i)) (.int i)
  | str (x : Str) : DP A (.v (.str x)) (.str x)
  | tup {ds : List D} {ps : List PyData} (h : DPs A ds ps) : DP A (.tup ds) (.tuple ps)
  | lst {k : Nat} {ds : List D} {ps : List PyData} (h0 : A[k]? = some (.lst ds)) (h : DPs A ds ps) : DP A (.ptr k) (.list ps)
inductive DPs (A : OH) : List D → List PyData → Prop
  | nil : DPs A [] []
  | cons {d : D} {p : PyData} {ds : List D} {ps : List PyData} (h : DP A d p) (t : DPs A ds ps) : DPs A (d :: ds) (p :: ps)
end
mutual
theorem DP.dp {θ : List Addr} {H : Hp} {A : OH} (ra : RA K θ H A) : ∀ {d : D} {p : PyData} {v : V}, DP A d p → RD K θ H v d → Dp K H v p
  | _, _, _, .non, r => by cases r; exact .non
  | _, _, _, .bl b, r => by cases r; exact .bl b
  | _, _, _, .int i, r => by cases r; exact .int i
  | _, _, _, .str x, r => by cases r; exact .str x
  | _, _, _, .tup h, r => by
    cases r with
    | tup hs r => exact .tup hs (DPs.dp ra h r)
  | _, _, _, .lst h0 h, r => by
    cases r with
    | ptr hi =>
      obtain ⟨xs, g, r'⟩ := ra.ok _ _ _ hi h0
      exact .lst (SqL.of g) (DPs.dp ra h r')
theorem DPs.dp {θ : List Addr} {H : Hp} {A : OH} (ra : RA K θ H A) : ∀ {d : List D} {p : List PyData} {v : List V}, DPs A d p → RDs K θ H v d → DpAll K H v p
  | _, _, _, .nil, r => by cases r; exact .nil
  | _, _, _, .cons h t, r => by
    cases r with
    | cons r1 r2 => exact .cons (DP.dp ra h r1) (DPs.dp ra t r2)
end
/-- d == e is b -/
def EqD (A : OH) (d e : D) (b : Bool) : Prop := ∃ p q, DP A d p ∧ DP A e q ∧ SeqAt.shaped p = true ∧ SeqAt.shaped q = true ∧ PyData.eqv p q = b
def hEq : R2h
  | .v (.int i), .v (.int j), A, Q => Q (.v (.bl (decide (i = j)))) A
  | .v (.str i), .v (.str j), A, Q => Q (.v (.bl (decide (i = j)))) A
  | .v (.bl i), .v (.bl j), A, Q => Q (.v (.bl (decide (i = j)))) A
  | .v .non, .v (.int _), A, Q => Q (.v (.bl false)) A
  | .v (.int _), .v .non, A, Q => Q (.v (.bl false)) A
  | .v .non, .v .non, A, Q => Q (.v (.bl true)) A
  | d, e, A, Q => ∃ b, EqD A d e b ∧ Q (.v (.bl b)) A
def hNe : R2h
  | .v (.int i), .v (.int j), A, Q => Q (.v (.bl (!decide (i = j)))) A
  | .v (.str i), .v (.str j), A, Q => Q (.v (.bl (!decide (i = j)))) A
  | .v (.bl i), .v (.bl j), A, Q => Q (.v (.bl (!decide (i = j)))) A
  | .v .non, .v (.int _), A, Q => Q (.v (.bl true)) A
  | .v (.int _), .v .non, A, Q => Q (.v (.bl true)) A
  | .v .non, .v .non, A, Q => Q (.v (.bl false)) A
  | d, e, A, Q => ∃ b, EqD A d e b ∧ Q (.v (.bl (!b))) A
def rEqA (K : PySem.W.Frag) : R2 := fun x y H Q => rEq x y H Q ∨ rEqD K x y H Q
def rNeA (K : PySem.W.Frag) : R2 := fun x y H Q => rNe x y H Q ∨ rNeD K x y H Q
theorem op_eqA {X : Cx} (hu : X.A.units + 64 < cLine) : OpR X (compareOp .Eq) (rEqA X.K) := op_eq.or (op_eqD hu)
theorem op_neA {X : Cx} (hu : X.A.units + 64 < cLine) : OpR X (compareOp .NotEq) (rNeA X.K) := op_ne.or (op_neD hu)
theorem eqv_int (i j : Int) : PyData.eqv (.int i) (.int j) = decide (i = j) := by
  have : PyData.eqv (.int i) (.int j) = (i == j) := by simp only [PyData.eqv]
  rw [this, Bool.eq_iff_iff]
  simp
theorem shaped_int (i : Int) : SeqAt.shaped (.int i) = true := by
  unfold SeqAt.shaped
  simp only [PyData.canLay0, PyData.depth]
  rfl
theorem l_eq : LR K (rEqA K) hEq := by
  intro θ H A x y d e Q Qh rd re ra w k
  unfold hEq at w
  split at w
  · cases rd
    cases re
    refine .inl ⟨rfl, k.here ra (.v _) ?_⟩
    simpa using w
  · cases rd
    cases re
    refine .inl ⟨rfl, k.here ra (.v _) ?_⟩
    simpa using w
  · cases rd
    cases re
    refine .inl ⟨rfl, k.here ra (.v _) ?_⟩
    simpa using w
  · cases rd; cases re; exact .inl ⟨rfl, k.here ra (.v _) w⟩
  · cases rd; cases re; exact .inl ⟨rfl, k.here ra (.v _) w⟩
  · cases rd; cases re; exact .inl ⟨rfl, k.here ra (.v _) w⟩
  · obtain ⟨b, ⟨p, q, h1, h2, h3, h4, rfl⟩, w⟩ := w
    exact .inr ⟨p, q, h1.dp ra rd, h2.dp ra re, h3, h4, k.here ra (.v _) w⟩
theorem l_ne : LR K (rNeA K) hNe := by
  intro θ H A x y d e Q Qh rd re ra w k
  unfold hNe at w
  split at w
  · cases rd
    cases re
    refine .inl ⟨rfl, k.here ra (.v _) ?_⟩
    simpa using w
  · cases rd
    cases re
    refine .inl ⟨rfl, k.here ra (.v _) ?_⟩
    simpa using w
  · cases rd
    cases re
    refine .inl ⟨rfl, k.here ra (.v _) ?_⟩
    simpa using w
  · cases rd; cases re; exact .inl ⟨rfl, k.here ra (.v _) w⟩
  · cases rd; cases re; exact .inl ⟨rfl, k.here ra (.v _) w⟩
  · cases rd; cases re; exact .inl ⟨rfl, k.here ra (.v _) w⟩
  · obtain ⟨b, ⟨p, q, h1, h2, h3, h4, rfl⟩, w⟩ := w
    exact .inr ⟨p, q, h1.dp ra rd, h2.dp ra re, h3, h4, k.here ra (.v _) w⟩
/-- is None -/
def hIsN : R2h
  | .v x, .v .non, A, Q => Q (.v (.bl (decide (x = .non)))) A
  | .tup _, .v .non, A, Q => Q (.v (.bl false)) A
  | .ptr _, .v .non, A, Q => Q (.v (.bl false)) A
  | .scr _, .v .non, A, Q => Q (.v (.bl false)) A
  | _, _, _, _ => False
theorem l_isN : LR K (fun x y H Q => y = .non ∧ Q (.bl (decide (x = .non))) H) hIsN := by
  intro θ H A x y d e Q Qh rd re ra w k
  unfold hIsN at w
  split at w
  · cases rd; cases re; exact ⟨rfl, k.here ra (.v _) w⟩
  · cases re; cases rd; exact ⟨rfl, k.here ra (.v _) w⟩
  · cases re; cases rd; exact ⟨rfl, k.here ra (.v _) w⟩
  · cases re; cases rd; exact ⟨rfl, k.here ra (.v _) w⟩
  · exact w.elim
def hNotN : R2h
  | .v x, .v .non, A, Q => Q (.v (.bl (!decide (x = .non)))) A
  | .tup _, .v .non, A, Q => Q (.v (.bl true)) A
  | .ptr _, .v .non, A, Q => Q (.v (.bl true)) A
  | .scr _, .v .non, A, Q => Q (.v (.bl true)) A
  | _, _, _, _ => False
theorem l_notN : LR K (fun x y H Q => y = .non ∧ Q (.bl (!decide (x = .non))) H) hNotN := by
  intro θ H A x y d e Q Qh rd re ra w k
  unfold hNotN at w
  split at w
  · cases rd; cases re; exact ⟨rfl, k.here ra (.v _) w⟩
  · cases re; cases rd; exact ⟨rfl, k.here ra (.v _) w⟩
  · cases re; cases rd; exact ⟨rfl, k.here ra (.v _) w⟩
  · cases re; cases rd; exact ⟨rfl, k.here ra (.v _) w⟩
  · exact w.elim
def hRepr : List D → OH → KH → Prop
  | [d], A, Q => ∃ p, DP A d p ∧ Shw p ∧ Q (.v (.str p.shown)) A
  | _, _, _ => False
theorem l_repr : LC K (fun xs H Q => ∃ x d, xs = [x] ∧ Dp K H x d ∧ Shw d ∧ Q (.str d.shown) H) hRepr := by
  intro θ H A xs ds Q Qh r ra w k
  unfold hRepr at w
  split at w
  · obtain ⟨p, h1, h2, w⟩ := w
    obtain ⟨x, rfl, rx⟩ := r.one
    exact ⟨x, p, rfl, h1.dp ra rx, h2, k.here ra (.v _) w⟩
  · exact w.elim
/-! ### isinstance with one class -/
inductive TyD (K : PySem.W.Frag) (A : OH) : D → Value → Prop
  | non : TyD K A (.v .non) (.type "NoneType")
  | bl (b : Bool) : TyD K A (.v (.bl b)) (.type "bool")
  | int (i : Int) : TyD K A (.v (.int i)) (.type "int")
  | str (x : Str) : TyD K A (.v (.str x)) (.type "str")
  | lst {k : Nat} {ds : List D} (h : A[k]? = some (.lst ds)) : TyD K A (.ptr k) (.type "list")
  | dK {k : Nat} {kvs : List (Key × D)} (h : A[k]? = some (.dK kvs)) : TyD K A (.ptr k) (.type "dict")
  | ins {k : Nat} {C : Addr} {fs : List (Str × D)} (h : A[k]? = some (.ins C fs)) (cl : Cls K C) (ha : PySem.W.findIn K (.ref C) "__class__" = some (some (.builtin "object.__class__")))
      (hn : PySem.W.specialIn K (.builtin "object.__class__") "__get__" = some (some (.builtin "getset_descriptor.__get__"))) (htk : PySem.W.takesIn K (.builtin "object.__class__") = some true)
      (hm : PySem.W.mroIn K C (.type "object") = some true) : TyD K A (.ptr k) (.ref C)
  | tup (ds : List D) : TyD K A (.tup ds) (.type "tuple")
theorem TyD.ty {θ : List Addr} {H : Hp} {A : OH} (ra : RA K θ H A) {d : D} {v : V} {t : Value} (h : TyD K A d t) (r : RD K θ H v d) : TyX K H v t := by
  cases h with
  | non => cases r; exact .base .non
  | bl b => cases r; exact .base (.bl b)
  | int i => cases r; exact .base (.int i)
  | str x => cases r; exact .base (.str x)
  | lst h =>
    cases r with
    | ptr hi =>
      obtain ⟨xs, g, _⟩ := ra.ok _ _ _ hi h
      exact .base (.lst g)
  | dK h =>
    cases r with
    | ptr hi =>
      obtain ⟨xs, g, _⟩ := ra.ok _ _ _ hi h
      exact .base (.dK g)
  | ins h cl ha hn htk hm =>
    cases r with
    | ptr hi =>
      obtain ⟨dx, xs, g, _, _⟩ := ra.ok _ _ _ hi h
      exact .base (.ins g cl ha hn htk hm)
  | tup ds =>
    cases r with
    | tup hs _ =>
      rcases hs with (h | ⟨o, h⟩) | ⟨o, its, n, h1, h2, _⟩
      · exact .base (.tup h)
      · exact .fTuple h
      · exact .kTuple h1 h2
/-- c: a class, as a value -/
def hIsi (K : PySem.W.Frag) : List D → OH → KH → Prop
  | [d, .v c], A, Q => ∃ t u b, ClsV c u ∧ TyD K A d t ∧ PySem.W.kitOne K t u = some b ∧ Q (.v (.bl b)) A
  | _, _, _ => False
theorem l_isi : LC K (rIsi K) (hIsi K) := by
  intro θ H A xs ds Q Qh r ra w k
  unfold hIsi at w
  split at w
  · obtain ⟨t, u, b, h1, h2, h3, w⟩ := w
    obtain ⟨x, y, rfl, rx, ry⟩ := r.two
    cases ry
    exact ⟨_, _, t, u, b, rfl, h1, h2.ty ra rx, h3, k.here ra (.v _) w⟩
  · exact w.elim
end
/-! ### attributes, stores, list methods -/
section
variable {X : Cx} {e o a b value : Expr} {es : List Expr} {f : Str} {pos pos' apos : Pos} {C : Addr} {ta tv : TEh} {t : TAh}
def hFld (C : Addr) (ta : TEh) (f : Str) : TEh := fun σ A Q => ta σ A fun x A1 => match x with
  | .ptr k => ∃ fs d, A1[k]? = some (.ins C fs) ∧ fs.lookup f = some d ∧ Q d A1
  | _ => False
theorem ph_fld (c : Cls X.K C) (n : NoAttr X.K C f) (he : PE X e (lift X.K ta)) (hb : attributeBase e f X.env (eval e X.env) = eval e X.env) : PE X (.Attribute e f pos) (lift X.K (hFld C ta f)) :=
  (pe_fld he hb).imp fun σ H Q ⟨θ, σh, A, Qh, rs, ra, w, k⟩ => ⟨θ, σh, A, _, rs, ra, w, fun θ1 H1 A1 v d e1 ra1 r1 w1 => by
    split at w1
    · obtain ⟨fs, d, h1, h2, q⟩ := w1
      cases r1 with
      | ptr hi =>
        obtain ⟨dx, xs, g, _, rf⟩ := ra1.ok _ _ _ hi h1
        obtain ⟨v, l, r⟩ := rf.lookup h2
        exact ⟨_, C, dx, xs, v, rfl, g, c, n, l, (k.ext e1).here ra1 r q⟩
    · exact w1.elim⟩
theorem RF.put {K : PySem.W.Frag} {θ : List Addr} {H : Hp} {f : Str} {v : V} {d : D} (r : RD K θ H v d) : ∀ {xs : List (Str × V)} {fs : List (Str × D)}, RF K θ H xs fs → RF K θ H (putF f v xs) (putD f d fs)
  | _, _, .nil => .cons r .nil
  | _, _, .cons (n := n) (x := x) (d := e) (xs := xs) (ds := ds) h t => by
    show RF K θ H (if n = f then (n, v) :: xs else (n, x) :: putF f v xs) (if n = f then (n, d) :: ds else (n, e) :: putD f d ds)
    split
    · exact .cons r t
    · exact .cons h (RF.put r t)
def hSetF (C : Addr) (ta tv : TEh) (f : Str) : TSh := fun D σ A => tv σ A fun y A1 => ta σ A1 fun x A2 => match x with
  | .ptr k => ∃ fs, A2[k]? = some (.ins C fs) ∧ few (fs.length + 99100) (PutQ A2 k (.ins C (putD f y fs)) (D.nx σ))
  | _ => False
theorem psh_fld (c : Cls X.K C) (n : NoAttr X.K C f) (ha : PE X o (lift X.K ta)) (hv : PE X value (lift X.K tv)) (hs : swapsWith value (some (.Attribute o f pos')) pos.line X.env = pure false) : PS X (.Assign [.Attribute o f pos'] value pos) (liftS X.K (hSetF C ta tv f)) :=
  (ps_fld ha hv hs).imp fun De σ H ⟨θ, σh, A, Dh, rs, ra, w, k⟩ => ⟨θ, σh, A, _, rs, ra, w, fun θ1 H1 A1 y dy e1 ra1 r1 w1 => ⟨θ1, σh, A1, _, rs.ext e1, ra1, w1, fun θ2 H2 A2 x dx e2 ra2 r2 w2 => by
    split at w2
    · rename_i kk
      obtain ⟨fs, h1, w2⟩ := w2
      have w3 : fs.length < 1000 ∧ PutQ A2 kk (.ins C (putD f dy fs)) (Dh.nx σh) := by
        unfold few at w2
        split at w2
        · rename_i e
          have := Nat.le_of_ble_eq_true e
          exact ⟨by omega, w2⟩
        · exact w2.elim
      cases r2 with
      | @ptr _ a hi =>
        obtain ⟨dx, xs, g, hd, rf⟩ := ra2.ok _ _ _ hi h1
        have mu : Mut (H2 a) := by rw [g]; exact True.intro
        have e3 := Ext.put (u := .ins C dx (putF f y xs)) (List.mem_of_getElem? hi) mu
        have ne : dx ≠ a := ne_of hd g (by intro z; cases z)
        refine ⟨_, C, dx, xs, rfl, g, c, n, by rw [rf.length]; exact w3.1, k.nx _ _ _ _ _ ((e1.trans e2).trans e3) (((rs.ext e1).ext e2).ext e3) (ra2.put (o' := .ins C (putD f dy fs)) hi h1 mu ⟨dx, _, upd_same, by rw [upd_ne ne]; exact hd, RF.put ((r1.ext e2).ext e3) (rf.stab0 (stab_put mu))⟩) (w3.2 _ ⟨(List.getElem?_eq_some_iff.mp h1).1, rfl⟩)⟩
    · exact w2.elim⟩⟩
/-- o[i] = v, o a list -/
def hgSub (to ti : TEh) : TGh := fun d σ A Q => to σ A fun o A1 => ti σ A1 fun i A2 => match o, i with
  | .ptr k, .v (.int n) => ∃ es j, A2[k]? = some (.lst es) ∧ ixN es.length n = some j ∧ PutQ A2 k (.lst (es.set j d)) (Q σ)
  | _, _ => False
theorem lg_sub {K : PySem.W.Frag} {to ti : TEh} : LG K (gSub (lift K to) (lift K ti) rSetL) (hgSub to ti) := fun v σ H Q ⟨θ, d, σh, A, Qh, r, rs, ra, w, k⟩ =>
  ⟨θ, σh, A, _, rs, ra, w, fun θ1 H1 A1 o do_ e1 ra1 r1 w1 => ⟨θ1, σh, A1, _, rs.ext e1, ra1, w1, fun θ2 H2 A2 i di e2 ra2 r2 w2 => by
    split at w2
    · obtain ⟨es, j, h1, h2, w2⟩ := w2
      have r1' := r1.ext e2
      cases r2
      cases r1' with
      | ptr hi =>
        obtain ⟨xs, g, rx⟩ := ra2.ok _ _ _ hi h1
        have rd := (r.ext e1).ext e2
        obtain ⟨q1, q2, q3⟩ := ra2.putL hi h1 (RDs.set rd j rx)
        exact ⟨_, xs, _, j, rfl, rfl, g, by rw [rx.length]; exact h2, k _ _ _ _ _ ((e1.trans e2).trans q2) (((rs.ext e1).ext e2).ext q2) q1 (w2 _ q3)⟩
    · exact w2.elim⟩⟩
theorem pgh_sub {to ti : TEh} (ho : PE X a (lift X.K to)) (hi : PE X b (lift X.K ti)) (ha : ∀ v, assign (.Subscript a b pos) X.env v = (do
      let ov ← holding [v] (eval a X.env)
      let iv ← holding [v, ov] (eval b X.env)
      standAt pos
      holding [v, ov, iv] (setItem ov iv v)
      release [v, ov, iv] []) := by intro _; rfl) : PG X (.Subscript a b pos) (gSub (lift X.K to) (lift X.K ti) rSetL) := pg_sub ho hi set_list ha
/-- l.append(d) -/
def hApp (to : TEh) (t : TAh) : TEh := fun σ A Q => to σ A fun x A1 => match x with
  | .ptr k => (∃ es, A1[k]? = some (.lst es)) ∧ t σ A1 fun ds A2 => match ds with
    | [d] => ∃ es, A2[k]? = some (.lst es) ∧ es.length ≤ 100000 ∧ PutQ A2 k (.lst (es ++ [d])) (Q (.v .non))
    | _ => False
  | _ => False
theorem ph_app (ho : PE X o (lift X.K ta)) (ha : PA X (e :: es) (liftA X.K t))
    (hbase : attributeBase o "append" X.env (eval o X.env) = eval o X.env := by rfl)
    (hfew : ((backTo pos (starEach (e :: es) X.env)).all (fun x => !x.1) && (backToKw pos (keywordEach [] X.env)).all (fun x => x.1.isSome)
      && decide ((e :: es).length + ([] : List Keyword).length + (if ([] : List Keyword).isEmpty then 0 else 1) < 30)) = true := by rfl)
    (hline : (apos.endLine == pos.line) = true := by rfl) (hs : starEach (e :: es) X.env = (false, eval e X.env) :: starEach es X.env := by rfl) (hplain : (backTo pos (starEach es X.env)).any (·.1) = false := by rfl) :
    PE X (.Call (.Attribute o "append" apos) (e :: es) [] pos) (lift X.K (hApp ta t)) :=
  (pe_bm PySem.F.plainAttrs_list PySem.F.slot_list_append PySem.F.type_list_append mt_append ho ha hbase hfew hline hs hplain).imp fun σ H Q ⟨θ, σh, A, Qh, rs, ra, w, k⟩ => ⟨θ, σh, A, _, rs, ra, w, fun θ1 H1 A1 v d e1 ra1 r1 w1 => by
    split at w1
    · obtain ⟨⟨es, h0⟩, w1⟩ := w1
      cases r1 with
      | ptr hi =>
        obtain ⟨xs, g, _⟩ := ra1.ok _ _ _ hi h0
        refine ⟨.inl ⟨rfl, xs, SqL.of g⟩, θ1, σh, A1, _, rs.ext e1, ra1, w1, fun θ2 H2 A2 vs ds e2 ra2 r2 w2 => ?_⟩
        split at w2
        · obtain ⟨es, h2, hz, w2⟩ := w2
          obtain ⟨y, rfl, ry⟩ := r2.one
          have hi' : RD X.K θ2 H2 (.ref _) (.ptr _) := (RD.ptr hi).ext e2
          cases hi' with
          | ptr hi' =>
            obtain ⟨ys, g2, rx⟩ := ra2.ok _ _ _ hi' h2
            obtain ⟨q1, q2, q3⟩ := ra2.putL hi' h2 (rx.append (.cons ry .nil))
            have ez : sizeLine = 16777216 := sizeLine_eq
            exact ⟨_, ys, y, rfl, rfl, g2, by rw [rx.length]; omega, k _ _ _ _ _ ((e1.trans e2).trans q2) q1 (.v _) (w2 _ q3)⟩
        · exact w2.elim
    · exact w1.elim⟩
/-- l.pop() -/
def hPop (to : TEh) : TEh := fun σ A Q => to σ A fun x A1 => match x with
  | .ptr k => ∃ es d, A1[k]? = some (.lst (es ++ [d])) ∧ PutQ A1 k (.lst es) (Q d)
  | _ => False
theorem ph_pop (ho : PE X o (lift X.K ta)) (hbase : attributeBase o "pop" X.env (eval o X.env) = eval o X.env := by rfl) (hline : (apos.endLine == pos.line) = true := by rfl) :
    PE X (.Call (.Attribute o "pop" apos) [] [] pos) (lift X.K (hPop ta)) :=
  (pe_bm0 PySem.F.plainAttrs_list PySem.F.slot_list_pop PySem.F.type_list_pop mt_pop ho hbase hline).imp fun σ H Q ⟨θ, σh, A, Qh, rs, ra, w, k⟩ => ⟨θ, σh, A, _, rs, ra, w, fun θ1 H1 A1 v d e1 ra1 r1 w1 => by
    split at w1
    · obtain ⟨es, d, h0, w1⟩ := w1
      cases r1 with
      | ptr hi =>
        obtain ⟨xs, g, rx⟩ := ra1.ok _ _ _ hi h0
        have hl : xs.length = es.length + 1 := by rw [rx.length, List.length_append]; rfl
        obtain ⟨y, hy, ry⟩ := rx.get (i := es.length) (d := d) (by simp)
        have rd : RDs X.K θ1 H1 xs.dropLast es := by
          have := rx.dropLast
          rw [List.dropLast_concat] at this
          exact this
        obtain ⟨q1, q2, q3⟩ := ra1.putL hi h0 rd
        exact ⟨.inl ⟨rfl, xs, SqL.of g⟩, _, xs, y, rfl, rfl, g, by rw [hl]; exact hy, k _ _ _ _ _ (e1.trans q2) q1 (ry.ext q2) (w1 _ q3)⟩
    · exact w1.elim⟩
end
end Rp

/-! More of the second layer: comparisons by name, targets within targets, slices with a step, zip. -/
namespace Rp
open PySem PySem.Spec PyProof.Rows L2
section
variable {K : PySem.W.Frag}
theorem l_lt : LR K (rI0 fun i j => .bl (decide (i < j))) (hI fun i j => decide (i < j)) := l_cmpI
theorem l_le : LR K (rI0 fun i j => .bl (decide (i ≤ j))) (hI fun i j => decide (i ≤ j)) := l_cmpI
theorem l_gt : LR K (rI0 fun i j => .bl (decide (j < i))) (hI fun i j => decide (j < i)) := l_cmpI
theorem l_ge : LR K (rI0 fun i j => .bl (decide (j ≤ i))) (hI fun i j => decide (j ≤ i)) := l_cmpI
/-! ### targets within targets -/
def Goes (g : TGh) : Prop := ∀ d σ A Q, g d σ A Q → ∃ σ' A', Q σ' A'
def Goess (g : TGsh) : Prop := ∀ d σ A Q, g d σ A Q → ∃ σ' A', Q σ' A'
theorem goes_name {i : Nat} : Goes (hgName i) := fun d σ A Q w => ⟨_, _, w⟩
theorem goes_nil : Goess hgNil := fun d σ A Q w => by
  unfold hgNil at w
  split at w
  · exact ⟨_, _, w⟩
  · exact w.elim
theorem goes_cons {g : TGh} {gs : TGsh} (h : Goes g) (h' : Goess gs) : Goess (hgCons g gs) := fun d σ A Q w => by
  unfold hgCons at w
  split at w
  · obtain ⟨_, _, w⟩ := h _ _ _ _ w
    exact h' _ _ _ _ w
  · exact w.elim
theorem goes_tup {gs : TGsh} (h : Goess gs) : Goes (hgTup gs) := fun d σ A Q w => by
  unfold hgTup at w
  split at w
  · exact h _ _ _ _ w
  · exact w.elim
theorem len_cons {g : TGh} {gs : TGsh} {n : Nat} (h : Goes g) (h' : LenG gs n) : LenG (hgCons g gs) (n + 1) := fun ds σ A Q w => by
  unfold hgCons at w
  split at w
  · obtain ⟨_, _, w⟩ := h _ _ _ _ w
    rw [List.length_cons, h' _ _ _ _ w]
  · exact w.elim
theorem mono_nil : ∀ v σ H Q Q', (∀ σ H, Q σ H → Q' σ H) → gNil v σ H Q → gNil v σ H Q' := fun _ _ _ _ _ h w => ⟨w.1, h _ _ w.2⟩
theorem mono_cons {g : TG} {gs : TGs} (h : ∀ v σ H Q Q', (∀ σ H, Q σ H → Q' σ H) → g v σ H Q → g v σ H Q') (h' : ∀ v σ H Q Q', (∀ σ H, Q σ H → Q' σ H) → gs v σ H Q → gs v σ H Q') :
    ∀ v σ H Q Q', (∀ σ H, Q σ H → Q' σ H) → gCons g gs v σ H Q → gCons g gs v σ H Q' := fun _ _ _ _ _ m ⟨x, r, e, w⟩ => ⟨x, r, e, h _ _ _ _ _ (fun _ _ q => h' _ _ _ _ _ m q) w⟩
theorem mono_tup {n : Nat} {gs : TGs} (h' : ∀ v σ H Q Q', (∀ σ H, Q σ H → Q' σ H) → gs v σ H Q → gs v σ H Q') : ∀ v σ H Q Q', (∀ σ H, Q σ H → Q' σ H) → gTup K n gs v σ H Q → gTup K n gs v σ H Q' :=
  fun _ _ _ _ _ m ⟨a, xs, e, hs, hl, w⟩ => ⟨a, xs, e, hs, hl, h' _ _ _ _ _ m w⟩
end
/-! ### xs[::k] of a list -/
def pickG {α : Type} (xs : List α) (st : Int) : List α :=
  (sliceRange (sliceBounds none none (some st) xs.length).1 (sliceBounds none none (some st) xs.length).2.1 (sliceBounds none none (some st) xs.length).2.2).filterMap (xs[·]?)
theorem pickG_mem {α : Type} {xs : List α} {st : Int} {x : α} (h : x ∈ pickG xs st) : x ∈ xs := by
  unfold pickG at h
  obtain ⟨i, _, e⟩ := List.mem_filterMap.mp h
  exact List.mem_of_getElem? e
theorem pick_eq (its : List Value) (st : Int) : slicePick its.toArray none none (some st) = (pickG its st).toArray := by
  unfold slicePick pickG
  simp only [List.size_toArray]
  congr 1
  congr 1
  funext i
  simp
theorem pickG_len {α : Type} (xs : List α) (st : Int) : (pickG xs st).length ≤ xs.length := by
  have e : ∀ (ys : List Value), (pickG ys st).length ≤ ys.length := fun ys => by
    have := slicePick_size_le ys.toArray none none (some st)
    rw [pick_eq] at this
    simpa using this
  have m : ∀ (ixs : List Nat) {β : Type} (ys : List β), ys.length = xs.length → (ixs.filterMap (ys[·]?)).length = (ixs.filterMap (xs[·]?)).length := fun ixs => by
    intro β ys hl
    induction ixs with
    | nil => rfl
    | cons i ixs ih =>
      rw [List.filterMap_cons, List.filterMap_cons]
      by_cases c : i < xs.length
      · rw [List.getElem?_eq_getElem c, List.getElem?_eq_getElem (by rw [hl]; exact c)]
        simp [ih]
      · rw [List.getElem?_eq_none (show ys.length ≤ i by omega), List.getElem?_eq_none (show xs.length ≤ i by omega)]
        exact ih
  have q := e (List.replicate xs.length Value.none)
  unfold pickG at q ⊢
  rw [List.length_replicate] at q
  rw [m _ (List.replicate xs.length Value.none) (by simp)] at q
  exact q
theorem fm_vals {xs : List V} {us : List Value} (r : Vals xs us) : ∀ ixs : List Nat, Vals (ixs.filterMap (xs[·]?)) (ixs.filterMap (us[·]?))
  | [] => .nil
  | i :: ixs => by
    have ih := fm_vals r ixs
    rw [List.filterMap_cons, List.filterMap_cons]
    cases e : xs[i]? with
    | none => rw [r.none_of e]; exact ih
    | some x =>
      obtain ⟨u, hu, ru⟩ := r.get e
      rw [hu]
      exact .cons ru ih
theorem Vals.pick {xs : List V} {us : List Value} (r : Vals xs us) (st : Int) : Vals (pickG xs st) (pickG us st) := by
  unfold pickG
  rw [r.length]
  exact fm_vals r _
theorem fm_rds {K : PySem.W.Frag} {θ : List Addr} {H : Hp} {xs : List V} {ds : List D} (r : RDs K θ H xs ds) : ∀ ixs : List Nat, RDs K θ H (ixs.filterMap (xs[·]?)) (ixs.filterMap (ds[·]?))
  | [] => .nil
  | i :: ixs => by
    have ih := fm_rds r ixs
    rw [List.filterMap_cons, List.filterMap_cons]
    by_cases c : i < xs.length
    · obtain ⟨d, hd, rd⟩ := r.get' (List.getElem?_eq_getElem c)
      rw [List.getElem?_eq_getElem c, hd]
      exact .cons rd ih
    · rw [List.getElem?_eq_none (by omega), List.getElem?_eq_none (by rw [← r.length]; omega)]
      exact ih
theorem RDs.pick {K : PySem.W.Frag} {θ : List Addr} {H : Hp} {xs : List V} {ds : List D} (r : RDs K θ H xs ds) (st : Int) : RDs K θ H (pickG xs st) (pickG ds st) := by
  unfold pickG
  rw [r.length]
  exact fm_rds r _
theorem pickG_map {α β : Type} (f : α → β) (xs : List α) (st : Int) : pickG (xs.map f) st = (pickG xs st).map f := by
  unfold pickG
  rw [List.length_map, List.map_filterMap]
  congr 1
  funext i
  rw [List.getElem?_map]
section
variable {X : Cx} {e st : Expr} {pos p3 : Pos}
def tStepL (K : PySem.W.Frag) (te : TE) (ts : TO) : TE := fun σ H Q => te σ H fun x H1 => ts σ H1 fun o H2 => ∃ a xs k, x = .ref a ∧ o = some k ∧ k ≠ 0 ∧ SqL K H2 a xs ∧ ∀ p, H2 p = none → Q (.ref p) (upd H2 p (.lst (pickG xs k)))
theorem pe_stepL {te : TE} {ts : TO} (he : PE X e te) (hst : PO X (some st) ts) (htr : ∀ o r, subscriptTail e (.Slice none none (some st) p3) o r = subscriptTail e (.Slice none none (some st) p3) o r := by intros; rfl)
    (hop : ∀ o s', (subscripted (.Slice none none (some st) p3) false o s') = operate [o, s'] (getItem o s') := by intros; rfl) : PE X (.Subscript e (.Slice none none (some st) p3) pos) (tStepL X.K te ts) := by
  refine ⟨fun pins s σ H Q I h => ?_⟩
  refine Subscript_ (thn (he.run pins s σ H _ I h) fun v s1 ⟨x, H1, I1, r1, q1⟩ => ?_)
  refine wpAny_Slice (thn (po_none.run pins s1 σ H1 (fun o H2 => o = none ∧ H2 = H1) I1 ⟨rfl, rfl⟩) fun vl s2 ⟨l, H2, I2, pl, el, e2⟩ => ?_)
  subst el e2
  refine thn (po_none.run pins s2 σ H2 (fun o H3 => o = none ∧ H3 = H2) I2 ⟨rfl, rfl⟩) fun vu s3 ⟨u, H3, I3, pu, eu, e3⟩ => ?_
  subst eu e3
  refine thn (hst.run pins s3 σ H3 _ I3 q1) fun vs s4 ⟨o, H4, I4, ps, a, xs, k, ex, eo, hk, hx, q⟩ => ?_
  subst ex eo
  cases r1
  have I5 : Inv X pins σ H4 { s4 with heap := s4.heap.push { cls := .type "slice", data := .fields #[vl, vu, vs] } } := I4.kept (t' := s4.toks) fun b ob q => Heap.get?_push_of_some _ q
  obtain ⟨its, r, ht, hz⟩ := I5.list hx
  have hlen := r.length
  show wpAny (model X.prog X.w) X.A (subscriptTail e (.Slice none none (some st) p3) (.ref a) (.ref s4.heap.objs.size)) (EP X pins σ Q) X.xe { s4 with heap := s4.heap.push { cls := .type "slice", data := .fields #[vl, vu, vs] } }
  refine tail_any (ops := [.ref a, .ref s4.heap.objs.size]) ht.isList.typeIs (PySem.slot_list_getitem.lookup) ?_ (by with_unfolding_all rfl)
  refine wpAny_getItem_list_slice ht.isList (Heap.IsSliceOf.new _ vl vu vs) pl pu ps (fun z => hk (Option.some.inj z)) ?_ (by rw [List.size_toArray]; omega)
  rw [pick_eq]
  refine ⟨.ref _, _, I5.laid (t' := s4.toks) (o := .lst (pickG xs k)) (fun b ob q => Heap.get?_push_of_some _ q) (Nat.le_refl _) ?_, rfl, q _ (I5.hok.fresh (Nat.le_refl _))⟩
  exact ⟨Nat.le_trans (pickG_len xs k) hz, _, 0, Vals.pick r k, Heap.get?_push_size _ rfl⟩
def hStep (te : TEh) (ts : TOh) : TEh := fun σ A Q => te σ A fun d A1 => ts σ A1 fun o A2 => match o with
  | none => False
  | some k => match decide (k = 0) with
    | true => False
    | false => match d with
      | .ptr i => ∃ ds, A2[i]? = some (.lst ds) ∧ NewQ A2 (.lst (pickG ds k)) Q
      | .scr ns => NewQ A2 (.lst ((pickG ns k).map fun n => .v (.int n))) Q
      | _ => False
theorem ph_step {te : TEh} {ts : TOh} (he : PE X e (lift X.K te)) (hst : PO X (some st) (liftO X.K ts)) : PE X (.Subscript e (.Slice none none (some st) p3) pos) (lift X.K (hStep te ts)) :=
  (pe_stepL he hst).imp fun σ H Q ⟨θ, σh, A, Qh, rs, ra, w, k⟩ => ⟨θ, σh, A, _, rs, ra, w, fun θ1 H1 A1 v d e1 ra1 r1 w1 => ⟨θ1, σh, A1, _, rs.ext e1, ra1, w1, fun θ2 H2 A2 o e2 ra2 w2 => by
    split at w2
    · exact w2.elim
    · rename_i k'
      split at w2
      · exact w2.elim
      · rename_i hk
        have hk := of_decide_eq_false hk
        have r2 := r1.ext e2
        have k2 := (k.ext e1).ext e2
        split at w2
        · obtain ⟨ds, h0, q⟩ := w2
          cases r2 with
          | ptr hi =>
            obtain ⟨xs, g, rx⟩ := ra2.ok _ _ _ hi h0
            exact ⟨_, xs, k', rfl, rfl, hk, SqL.of g, fun p hp => k2.lst ra2 (rx.pick k') q hp⟩
        · cases r2 with
          | scr hs =>
            refine ⟨_, _, k', rfl, rfl, hk, hs.l, fun p hp => k2.lst ra2 ?_ w2 hp⟩
            rw [pickG_map]
            exact RDs.scal V.int _
        · exact w2.elim⟩⟩
end
end Rp

/-! What stays: the objects outside M are kept; a def's own objects by place. -/
namespace Rp
open PySem PySem.Spec PyProof.Rows L2
def Kp (M : List Nat) (A A' : OH) : Prop := ∀ (i : Nat) (o : O), i ∉ M → A[i]? = some o → A'[i]? = some o
theorem Kp.refl (M : List Nat) (A : OH) : Kp M A A := fun _ _ _ h => h
theorem Kp.trans {M : List Nat} {A B C : OH} (a : Kp M A B) (b : Kp M B C) : Kp M A C := fun i o n h => b i o n (a i o n h)
theorem Kp.mono {M N : List Nat} {A B : OH} (a : Kp M A B) (h : ∀ i ∈ M, i ∈ N) : Kp N A B := fun i o n q => a i o (fun z => n (h i z)) q
theorem Kp.new {M : List Nat} {A A1 A2 : OH} {k : Nat} {o : O} (a : Kp M A A1) (n : New A1 k o A2) : Kp M A A2 := fun i u nm h => n.old (a i u nm h)
theorem Kp.of_new {M : List Nat} {A A2 : OH} {k : Nat} {o : O} (n : New A k o A2) : Kp M A A2 := fun i u nm h => n.old h
structure Loc (M : List Nat) (A0 : OH) (ls : List (Nat × O)) (A : OH) : Prop where
  kp : Kp M A0 A
  here : ∀ p ∈ ls, A[p.1]? = some p.2
  ne : ∀ p ∈ ls, p.1 ∉ M ∧ A0[p.1]? = none
  nd : (ls.map Prod.fst).Nodup
section
variable {M : List Nat} {A0 A A' : OH} {ls : List (Nat × O)} {k : Nat} {o o' : O}
theorem Loc.nil : Loc M A [] A := ⟨.refl _ _, (fun _ h => nomatch h), (fun _ h => nomatch h), List.nodup_nil⟩
theorem Loc.get (l : Loc M A0 ls A) {i : Nat} (h : ls[i]? = some (k, o)) : A[k]? = some o := l.here (k, o) (List.mem_of_getElem? h)
theorem Loc.get0 {r : List (Nat × O)} (l : Loc M A0 ((k, o) :: r) A) : A[k]? = some o := l.get (i := 0) rfl
theorem Loc.get1 {p : Nat × O} {r : List (Nat × O)} (l : Loc M A0 (p :: (k, o) :: r) A) : A[k]? = some o := l.get (i := 1) rfl
theorem Loc.get2 {p q : Nat × O} {r : List (Nat × O)} (l : Loc M A0 (p :: q :: (k, o) :: r) A) : A[k]? = some o := l.get (i := 2) rfl
theorem Loc.out (l : Loc M A0 ls A) {i : Nat} (h : ls[i]? = some (k, o)) : k ∉ M := (l.ne (k, o) (List.mem_of_getElem? h)).1
/-- a new object that one forgets -/
theorem Loc.new0 (l : Loc M A0 ls A) (n : New A k o A') : Loc M A0 ls A' := ⟨l.kp.new n, fun p hp => n.old (l.here p hp), l.ne, l.nd⟩
/-- .. that is one's own; m: the objects of M stand -/
theorem Loc.new (l : Loc M A0 ls A) (n : New A k o A') (m : ∀ i ∈ M, i < A.length) : Loc M A0 ((k, o) :: ls) A' := by
  have hk : k ∉ M := fun z => by have := m k z; have := n.eq; omega
  refine ⟨l.kp.new n, fun p hp => ?_, fun p hp => ?_, ?_⟩
  · rcases List.mem_cons.mp hp with rfl | hp
    · exact n.get
    · exact n.old (l.here p hp)
  · rcases List.mem_cons.mp hp with rfl | hp
    · refine ⟨hk, ?_⟩
      cases e : A0[k]? with
      | none => rfl
      | some u =>
        have := (List.getElem?_eq_some_iff.mp (l.kp k u hk e)).1
        have := n.eq
        omega
    · exact l.ne p hp
  · rw [List.map_cons, List.nodup_cons]
    refine ⟨fun z => ?_, l.nd⟩
    obtain ⟨p, hp, e⟩ := List.mem_map.mp z
    have := (List.getElem?_eq_some_iff.mp (l.here p hp)).1
    have := n.eq
    omega
theorem Loc.put (l : Loc M A0 ls A) {i : Nat} (h : ls[i]? = some (k, o)) (p : Put A k o' A') : Loc M A0 (ls.set i (k, o')) A' := by
  have hm := List.mem_of_getElem? h
  have hk := l.ne _ hm
  have hi := (List.getElem?_eq_some_iff.mp h).1
  refine ⟨fun j u nm q => p.old (fun z => by subst z; rw [hk.2] at q; cases q) (l.kp j u nm q), fun q hq => ?_, fun q hq => ?_, ?_⟩
  · obtain ⟨j, hj, e⟩ := List.mem_iff_getElem.mp hq
    rw [List.length_set] at hj
    by_cases c : i = j
    · subst c
      rw [List.getElem_set_self] at e
      rw [← e]
      exact p.get
    · rw [List.getElem_set_ne c] at e
      have hq' : ls[j]? = some q := by rw [List.getElem?_eq_getElem hj, e]
      refine p.old (fun z => c ?_) (l.here q (List.mem_of_getElem? hq'))
      have h1 : (ls.map Prod.fst)[i]? = some k := by rw [List.getElem?_map, h]; rfl
      have h2 : (ls.map Prod.fst)[j]? = some k := by rw [List.getElem?_map, hq', ← z]; rfl
      obtain ⟨a1, b1⟩ := List.getElem?_eq_some_iff.mp h1
      obtain ⟨a2, b2⟩ := List.getElem?_eq_some_iff.mp h2
      exact (List.getElem_inj l.nd).mp (b1.trans b2.symm)
  · rcases List.mem_or_eq_of_mem_set hq with q' | q'
    · exact l.ne q q'
    · rw [q']; exact hk
  · have e : (ls.set i (k, o')).map Prod.fst = ls.map Prod.fst := by
      rw [List.map_set]
      show (ls.map Prod.fst).set i k = _
      have h1 : (ls.map Prod.fst)[i]? = some k := by rw [List.getElem?_map, h]; rfl
      obtain ⟨a1, b1⟩ := List.getElem?_eq_some_iff.mp h1
      rw [← b1, List.set_getElem_self]
    rw [e]
    exact l.nd
theorem Loc.put0 {r : List (Nat × O)} (l : Loc M A0 ((k, o) :: r) A) (p : Put A k o' A') : Loc M A0 ((k, o') :: r) A' := l.put (i := 0) rfl p
theorem Loc.put1 {q : Nat × O} {r : List (Nat × O)} (l : Loc M A0 (q :: (k, o) :: r) A) (p : Put A k o' A') : Loc M A0 (q :: (k, o') :: r) A' := l.put (i := 1) rfl p
theorem Loc.kept (l : Loc M A0 ls A) {N : List Nat} (k : Kp N A A') (h : ∀ i ∈ N, i ∈ M) : Loc M A0 ls A' := ⟨l.kp.trans (k.mono h), fun p hp => k _ _ (fun z => (l.ne p hp).1 (h _ z)) (l.here p hp), l.ne, l.nd⟩
theorem Loc.drop {p : Nat × O} (l : Loc M A0 (p :: ls) A) : Loc M A0 ls A := ⟨l.kp, fun q hq => l.here q (List.mem_cons_of_mem _ hq), fun q hq => l.ne q (List.mem_cons_of_mem _ hq), (List.nodup_cons.mp l.nd).2⟩
end
theorem lt_of_at {A : OH} {k : Nat} {o : O} (h : A[k]? = some o) : k < A.length := (List.getElem?_eq_some_iff.mp h).1
theorem dI_len (ns : List Int) : (dI ns).length = ns.length := List.length_map _
theorem dI_app (ns ms : List Int) : dI (ns ++ ms) = dI ns ++ dI ms := List.map_append
theorem dI_at {ns : List Int} {i : Nat} {d : D} (h : (dI ns)[i]? = some d) : ∃ n, ns[i]? = some n ∧ d = .v (.int n) := by
  rw [List.getElem?_map] at h
  cases e : ns[i]? with
  | none => rw [e] at h; cases h
  | some n => rw [e] at h; exact ⟨n, rfl, (Option.some.inj h).symm⟩
theorem mem_dI {ns : List Int} {d : D} (h : d ∈ dI ns) : ∃ n ∈ ns, d = .v (.int n) := by
  obtain ⟨n, hn, e⟩ := List.mem_map.mp h
  exact ⟨n, hn, e.symm⟩
theorem pickG_dI (ns : List Int) (st : Int) : pickG (dI ns) st = dI (pickG ns st) := pickG_map _ _ _
theorem cutD_dI (ns : List Int) (lo hi : Option Int) : cutD (dI ns) lo hi = dI (cutI ns lo hi) := by
  unfold cutD cutI dI
  rw [List.length_map, List.map_take, List.map_drop]
theorem cutI_len (ns : List Int) (lo hi : Option Int) : (cutI ns lo hi).length ≤ ns.length := by
  unfold cutI
  rw [List.length_take, List.length_drop]
  omega
/-! ### typed data: == decides equality -/
structure Enc {α : Type} [DecidableEq α] (A : OH) (f : α → D) (g : α → PyData) (n : Nat) : Prop where
  dp : ∀ a, DP A (f a) (g a)
  lay : ∀ a, (g a).canLay0 = true
  dep : ∀ a, (g a).depth ≤ n
  eqv : ∀ a b, PyData.eqv (g a) (g b) = decide (a = b)
section
variable {α β : Type} [DecidableEq α] [DecidableEq β] {A : OH} {f : α → D} {g : α → PyData} {f' : β → D} {g' : β → PyData} {n m : Nat}
theorem Enc.int : Enc A (fun i : Int => .v (.int i)) (fun i => .int i) 0 :=
  ⟨fun i => .int i, fun i => by simp only [PyData.canLay0], fun i => by simp only [PyData.depth]; exact Nat.le_refl _, eqv_int⟩
theorem Enc.nat : Enc A (fun i : Nat => .v (.int i)) (fun i => .int i) 0 :=
  ⟨fun i => .int i, fun i => by simp only [PyData.canLay0], fun i => by simp only [PyData.depth]; exact Nat.le_refl _, fun a b => by rw [eqv_int]; exact decide_eq_decide.mpr Int.ofNat_inj⟩
theorem Enc.bool : Enc A (fun i : Bool => .v (.bl i)) (fun i => .bool i) 0 :=
  ⟨fun i => .bl i, fun i => by simp only [PyData.canLay0], fun i => by simp only [PyData.depth]; exact Nat.le_refl _, fun a b => by
    rw [show PyData.eqv (.bool a) (.bool b) = (a == b) by cases a <;> cases b <;> rfl, Bool.eq_iff_iff]
    simp⟩
theorem Enc.all (E : Enc A f g n) : (∀ as : List α, DPs A (as.map f) (as.map g)) ∧ (∀ as : List α, PyData.canLayAll0 (as.map g) = true) ∧ (∀ as : List α, PyData.depthAll (as.map g) ≤ n) ∧ ∀ as bs : List α, PyData.eqvAll (as.map g) (bs.map g) = decide (as = bs) := by
  refine ⟨fun as => ?_, fun as => ?_, fun as => ?_, fun as => ?_⟩
  · induction as with
    | nil => exact .nil
    | cons a as ih => exact .cons (E.dp a) ih
  · induction as with
    | nil => rfl
    | cons a as ih =>
      show PyData.canLayAll0 (g a :: as.map g) = true
      simp only [PyData.canLayAll0, E.lay a, ih, Bool.and_self]
  · induction as with
    | nil => show PyData.depthAll [] ≤ n; simp only [PyData.depthAll]; exact Nat.zero_le _
    | cons a as ih =>
      show PyData.depthAll (g a :: as.map g) ≤ n
      have := E.dep a
      simp only [PyData.depthAll]
      omega
  · induction as with
    | nil =>
      intro bs
      cases bs with
      | nil => rfl
      | cons b bs => rfl
    | cons a as ih =>
      intro bs
      cases bs with
      | nil => rfl
      | cons b bs =>
        show (PyData.eqv (g a) (g b) && PyData.eqvAll (as.map g) (bs.map g)) = _
        rw [ih, E.eqv, Bool.eq_iff_iff]
        simp
theorem Enc.tup (E : Enc A f g n) : Enc A (fun as : List α => .tup (as.map f)) (fun as => .tuple (as.map g)) (n + 1) := by
  obtain ⟨h1, h2, h3, h4⟩ := E.all
  exact ⟨fun as => .tup (h1 as), fun as => by simp only [PyData.canLay0]; exact h2 as, fun as => by have := h3 as; simp only [PyData.depth]; omega, fun a b => by simp only [PyData.eqv]; exact h4 a b⟩
theorem Enc.pair (E : Enc A f g n) (E' : Enc A f' g' m) : Enc A (fun p : α × β => .tup [f p.1, f' p.2]) (fun p => .tuple [g p.1, g' p.2]) (max n m + 1) :=
  ⟨fun p => .tup (.cons (E.dp _) (.cons (E'.dp _) .nil)), fun p => by simp only [PyData.canLay0, PyData.canLayAll0, E.lay, E'.lay, Bool.and_self],
    fun p => by have := E.dep p.1; have := E'.dep p.2; simp only [PyData.depth, PyData.depthAll]; omega,
    fun p q => by
      obtain ⟨a, b⟩ := p
      obtain ⟨c, e⟩ := q
      simp only [PyData.eqv, PyData.eqvAll]
      rw [E.eqv, E'.eqv, Bool.eq_iff_iff]
      simp⟩
theorem Enc.sh (E : Enc A f g n) (hn : n ≤ 64) (a : α) : SeqAt.shaped (g a) = true := by
  unfold SeqAt.shaped
  rw [E.lay, Bool.true_and, decide_eq_true_eq]
  exact Nat.le_trans (E.dep a) hn
theorem Enc.eqd (E : Enc A f g n) (hn : n ≤ 64) (a b : α) : EqD A (f a) (f b) (decide (a = b)) := ⟨_, _, E.dp a, E.dp b, E.sh hn a, E.sh hn b, E.eqv a b⟩
theorem Enc.lst (E : Enc A f g n) (hn : n ≤ 63) {i j : Nat} {as bs : List α} (h : A[i]? = some (.lst (as.map f))) (h' : A[j]? = some (.lst (bs.map f))) : EqD A (.ptr i) (.ptr j) (decide (as = bs)) := by
  obtain ⟨h1, h2, h3, h4⟩ := E.all
  have sh : ∀ as : List α, SeqAt.shaped (.list (as.map g)) = true := fun as => by
    have := h3 as
    unfold SeqAt.shaped
    rw [Bool.and_eq_true, decide_eq_true_eq]
    refine ⟨by simp only [PyData.canLay0]; exact h2 as, ?_⟩
    simp only [PyData.depth]
    omega
  exact ⟨_, _, .lst h (h1 as), .lst h' (h1 bs), sh as, sh bs, by simp only [PyData.eqv]; exact h4 as bs⟩
end
theorem EqD.ints {A : OH} {i j : Nat} {ns ms : List Int} (h : A[i]? = some (.lst (dI ns))) (h' : A[j]? = some (.lst (dI ms))) : EqD A (.ptr i) (.ptr j) (decide (ns = ms)) := Enc.int.lst (by decide) h h'
theorem cutD_last (xs : List D) (x : D) : cutD (xs ++ [x]) none (some (-1)) = xs := by
  unfold cutD HT.sIx
  have e : ((xs ++ [x]).length : Nat) = xs.length + 1 := by simp
  rw [e]
  simp only [show ((-1 : Int) < 0) by decide, if_true, List.drop_zero, Nat.sub_zero]
  rw [show ((-1 : Int) + ((xs.length + 1 : Nat) : Int)).toNat = xs.length by omega]
  simp
theorem cutD_nat (xs : List D) (i j : Nat) (hi : i ≤ j) (hj : j ≤ xs.length) : cutD xs (some (i : Int)) (some (j : Int)) = (xs.drop i).take (j - i) := by
  unfold cutD
  rw [HT.sIx_nat, HT.sIx_nat, Nat.min_eq_left hj, Nat.min_eq_left (show i ≤ xs.length by omega)]
theorem cutD_from (xs : List D) (i : Nat) (hi : i ≤ xs.length) : cutD xs (some (i : Int)) none = xs.drop i := by
  unfold cutD
  rw [HT.sIx_nat, Nat.min_eq_left hi]
  show ((xs.drop i).take (xs.length - i)) = _
  rw [List.take_of_length_le (by rw [List.length_drop]; omega)]
theorem cutD_to (xs : List D) (j : Nat) (hj : j ≤ xs.length) : cutD xs none (some (j : Int)) = xs.take j := by
  unfold cutD
  rw [HT.sIx_nat, Nat.min_eq_left hj]
  rfl
/-- 1, -1: the test of a truth that is known -/
theorem Br.of {b : Bool} {p q : Prop} (h : b = true → p) (h' : b = false → q) : Br b p q := ⟨h, h'⟩
end Rp

/-! Calls of defs with keyword-only parameters, over data. -/
namespace Rp
open PySem PySem.Spec PyProof.Rows L2
theorem RDs.scalV {K : PySem.W.Frag} {θ : List Addr} {H : Hp} : ∀ xs : List V, RDs K θ H xs (xs.map D.v)
  | [] => .nil
  | x :: xs => .cons (.v _) (RDs.scalV xs)
/-- what is put where, the same of values and of data -/
structure KwD (gV : List V → List V → List V) (gD : List D → List D → List D) : Prop where
  rd : ∀ {K : PySem.W.Frag} {θ : List Addr} {H : Hp} {vs zs : List V} {ds es : List D}, RDs K θ H vs ds → RDs K θ H zs es → RDs K θ H (gV vs zs) (gD ds es)
/-- a keyword-only parameter's default stands in the def's own dict -/
theorem funD_of {K : PySem.W.Frag} {x qual : Str} {params : Arguments} {body : List Stmt} {scope : Scope} {kws : List (Str × V)} {f D : Addr} {oc : Value} {od : Option Addr} {doc pm : Value} {an : Option Addr} {cdv ct : Value} {osl : Array (Option Value)}
    (l : K.lookup f = some ⟨oc, od, .func (PySem.W.fnOf x qual params body scope .none (.ref D) doc pm an cdv ct), osl⟩) (c : PySem.W.codeIn K cdv qual = true) (k : PySem.W.keepIn K (.ref f) = true) (h : ∀ q ∈ kws, ∃ u, PySem.W.nsIn K D q.1 = some (some u) ∧ RelV q.2 u) :
    FunD K x qual params body scope [] kws f (PySem.W.fnOf x qual params body scope .none (.ref D) doc pm an cdv ct) :=
  ⟨⟨oc, od, .none, .ref D, doc, pm, an, cdv, ct, osl, rfl, l, c, .inl ⟨rfl, rfl⟩, .inr ⟨D, rfl, h⟩⟩, k⟩
section
variable {X : Cx} {CX : CXT} {k n N mm : Nat} {f C : Addr} {fd : FuncData} {ps ks : List Str} {sp : Sph} {x m : Str} {p pos apos kpos : Pos} {e o : Expr} {es : List Expr} {kws : List Keyword} {ta : TEh} {t tk : TAh} {us : List Value} {dd : List V} {nm : Option Str}
  {g : List Value → List Value → List Value} {gV : List V → List V → List V} {gD : List D → List D → List D}
theorem pkh_nil : PK X [] (liftA X.K hNil) := ⟨fun pos pins s σ H Q I ⟨θ, σh, A, Qh, rs, ra, w, k⟩ => pk_nil.run pos pins s σ H Q I (k _ _ _ _ _ (.refl _ _) ra .nil w)⟩
theorem pkh_cons {t : TEh} {u : TAh} (ha : PE X e (lift X.K t)) (hr : PK X kws (liftA X.K u)) : PK X (⟨nm, e, kpos⟩ :: kws) (liftA X.K (hCons t u)) :=
  ⟨fun pos pins s σ H Q I ⟨θ, σh, A, Qh, rs, ra, w, k⟩ => (pk_cons ha hr).run pos pins s σ H Q I ⟨θ, σh, A, _, rs, ra, w, fun θ1 H1 A1 v d e1 ra1 r1 w1 => ⟨θ1, σh, A1, _, rs.ext e1, ra1, w1, fun θ2 H2 A2 vs ds e2 ra2 r2 w2 =>
    k _ _ _ _ _ (e1.trans e2) ra2 (.cons (r1.ext e2) r2) w2⟩⟩⟩
/-- o.m(e, ..), the keyword-only ones left out -/
def hMethD (C : Addr) (m : Str) (n : Nat) (dd : List V) (sp : Sph) (ta : TEh) (t : TAh) : TEh := fun σ A Q => ta σ A fun x A1 => match x with
  | .ptr i => ∃ fs, A1[i]? = some (.ins C fs) ∧ fs.lookup m = none ∧ t σ A1 fun ds A2 => nArgs (ds.length + 1 + dd.length) n (Ask sp (.ptr i :: (ds ++ dd.map D.v)) A2 Q)
  | _ => False
theorem ph_methD {pl : Sem Bool} (he : PE X o (lift X.K ta)) (c : Cls X.K C) (hm : Meth X.K C m f) (F : FnOk X.prog X.w X.K X.mg X.base CX0 k f fd ps (spOf X.K n sp)) (hr : Room k X.A) (hb : ∃ us, Vals dd us ∧ L2.Binds X.K fd ps us) (ha : PA X (e :: es) (liftA X.K t))
    (hst : starEach (e :: es) X.env = (false, eval e X.env) :: starEach es X.env := by rfl) (hpl : (backTo pos (starEach es X.env)).any (·.1) = false := by rfl)
    (ht : eval (.Call (.Attribute o m apos) (e :: es) [] pos) X.env = (do
      let ov ← eval o X.env
      standAt apos.atName
      let (f, first) ← holding [ov] (getMethod ov m pl)
      callWith pos f first (backTo pos (starEach (e :: es) X.env)) (backToKw pos (keywordEach [] X.env))) := by rfl) :
    PE X (.Call (.Attribute o m apos) (e :: es) [] pos) (lift X.K (hMethD C m n dd sp ta t)) := by
  obtain ⟨us, hd, hb⟩ := hb
  exact (pe_meth (pl := pl) (E := fun _ _ _ => False) he c hm F hr hb hd pass0 ha hst hpl ht).imp fun σ H Q ⟨θ, σh, A, Qh, rs, ra, w, k⟩ => ⟨θ, σh, A, _, rs, ra, w, fun θ1 H1 A1 v d e1 ra1 r1 w1 => by
    split at w1
    · obtain ⟨fs, h1, h2, w1⟩ := w1
      cases r1 with
      | ptr hi =>
        obtain ⟨dx, xs, g, _, rf⟩ := ra1.ok _ _ _ hi h1
        refine ⟨_, dx, xs, rfl, g, rf.lookup_none h2, θ1, σh, A1, _, rs.ext e1, ra1, w1, fun θ2 H2 A2 vs ds e2 ra2 r2 w2 => ?_⟩
        obtain ⟨hn, w2⟩ := nArgs_ok w2
        exact ⟨by rw [List.length_cons, List.length_append, r2.length]; omega, θ2, _, A2, Qh, .cons ((RD.ptr hi).ext e2) (r2.append (RDs.scalV dd)), ra2, w2.h, (k.ext e1).ext e2⟩
    · exact w1.elim⟩
def tMethN (C : Addr) (m : Str) (n mm : Nat) (sp : Sp) (gV : List V → List V → List V) (E : XK) (ta : TE) (t tk : TA) : TE := fun σ H Q => ta σ H fun x H1 => ∃ a dx fs, x = .ref a ∧ H1 a = some (.ins C dx fs) ∧ fs.lookup m = none ∧
  t σ H1 fun vs H2 => tk σ H2 fun zs H3 => vs.length = n ∧ zs.length = mm ∧ sp (gV (.ref a :: vs) zs) H3 Q E
theorem pe_methN {pl : Sem Bool} {ta : TE} {t tk : TA} {sp : Sp} {E : XK} (he : PE X o ta) (c : Cls X.K C) (hm : Meth X.K C m f) (F : FnOk X.prog X.w X.K X.mg X.base CX k f fd ps sp) (hr : Room k X.A) (hb : KBn X.K fd ps (n + 1) ks g gV) (hx : Passes CX X E) (ha : PA X (e :: es) t) (hkw : PK X kws tk)
    (hall : (backToKw pos (keywordEach kws X.env)).all (·.1.isSome) = true := by rfl) (hks : (backToKw pos (keywordEach kws X.env)).filterMap (·.1) = ks := by rfl)
    (hst : starEach (e :: es) X.env = (false, eval e X.env) :: starEach es X.env := by rfl) (hpl : ((backTo pos (starEach (e :: es) X.env)).any (·.1) || (backToKw pos (keywordEach kws X.env)).any (·.1.isNone)) = false := by rfl)
    (ht : eval (.Call (.Attribute o m apos) (e :: es) kws pos) X.env = (do
      let ov ← eval o X.env
      standAt apos.atName
      let (f, first) ← holding [ov] (getMethod ov m pl)
      callWith pos f first (backTo pos (starEach (e :: es) X.env)) (backToKw pos (keywordEach kws X.env))) := by rfl) :
    PE X (.Call (.Attribute o m apos) (e :: es) kws pos) (tMethN C m n ks.length sp gV E ta t tk) := by
  refine ⟨fun pins s σ H Q I h => ?_⟩
  refine PySem.W.methodCall_KW (pl := pl) (thn (he.run pins s σ H _ I h) fun u s1 ⟨x, H1, I1, rx, a, dx, fs, ex, ea, l, q⟩ => ?_) ht
  subst ex
  obtain rfl : u = Value.ref a := rx
  refine getmeth_ok I1 ea c hm l ?_
  refine PySem.W.callWith_KW (first := [.ref a]) (h₀ := X.base) I.ok.mod.kin hm.kp hall (thn (ha.run pos pins s1 σ H1 _ I1 q) fun us s2 ⟨vs, H2, I2, r, q2⟩ => ?_) hpl hst
  refine thn (hkw.run pos pins s2 σ H2 _ I2 q2) fun ws s3 ⟨zs, H3, I3, rz, l1, l2, q3⟩ => ⟨I3.kIn, ?_⟩
  rw [hks]
  exact run_fnN (us := .ref a :: us) (vs := .ref a :: vs) F hr hb hx I3 (.cons rfl r) rz (by rw [List.length_cons, l1]) l2 q3
/-- o.m(e, .., k = v, ..) -/
def hMethK (C : Addr) (m : Str) (N n mm : Nat) (gD : List D → List D → List D) (sp : Sph) (ta : TEh) (t tk : TAh) : TEh := fun σ A Q => ta σ A fun x A1 => match x with
  | .ptr i => ∃ fs, A1[i]? = some (.ins C fs) ∧ fs.lookup m = none ∧ t σ A1 fun ds A2 => tk σ A2 fun es A3 => nArgs ds.length n (nArgs es.length mm (nArgs (gD (.ptr i :: ds) es).length N (Ask sp (gD (.ptr i :: ds) es) A3 Q)))
  | _ => False
theorem ph_methK {pl : Sem Bool} (he : PE X o (lift X.K ta)) (c : Cls X.K C) (hm : Meth X.K C m f) (F : FnOk X.prog X.w X.K X.mg X.base CX0 k f fd ps (spOf X.K N sp)) (hr : Room k X.A) (hg : KwD gV gD) (hb : ∃ g, KBn X.K fd ps (n + 1) ks g gV) (ha : PA X (e :: es) (liftA X.K t)) (hkw : PK X kws (liftA X.K tk))
    (hall : (backToKw pos (keywordEach kws X.env)).all (·.1.isSome) = true := by rfl) (hks : (backToKw pos (keywordEach kws X.env)).filterMap (·.1) = ks := by rfl)
    (hst : starEach (e :: es) X.env = (false, eval e X.env) :: starEach es X.env := by rfl) (hpl : ((backTo pos (starEach (e :: es) X.env)).any (·.1) || (backToKw pos (keywordEach kws X.env)).any (·.1.isNone)) = false := by rfl)
    (ht : eval (.Call (.Attribute o m apos) (e :: es) kws pos) X.env = (do
      let ov ← eval o X.env
      standAt apos.atName
      let (f, first) ← holding [ov] (getMethod ov m pl)
      callWith pos f first (backTo pos (starEach (e :: es) X.env)) (backToKw pos (keywordEach kws X.env))) := by rfl) :
    PE X (.Call (.Attribute o m apos) (e :: es) kws pos) (lift X.K (hMethK C m N n ks.length gD sp ta t tk)) := by
  obtain ⟨g, hb⟩ := hb
  exact (pe_methN (pl := pl) (E := fun _ _ _ => False) he c hm F hr hb pass0 ha hkw hall hks hst hpl ht).imp fun σ H Q ⟨θ, σh, A, Qh, rs, ra, w, k⟩ => ⟨θ, σh, A, _, rs, ra, w, fun θ1 H1 A1 v d e1 ra1 r1 w1 => by
    split at w1
    · obtain ⟨fs, h1, h2, w1⟩ := w1
      cases r1 with
      | ptr hi =>
        obtain ⟨dx, xs, g, _, rf⟩ := ra1.ok _ _ _ hi h1
        refine ⟨_, dx, xs, rfl, g, rf.lookup_none h2, θ1, σh, A1, _, rs.ext e1, ra1, w1, fun θ2 H2 A2 vs ds e2 ra2 r2 w2 => ⟨θ2, σh, A2, _, (rs.ext e1).ext e2, ra2, w2, fun θ3 H3 A3 zs es e3 ra3 r3 w3 => ?_⟩⟩
        obtain ⟨hn, w3⟩ := nArgs_ok w3
        obtain ⟨hn2, w3⟩ := nArgs_ok w3
        obtain ⟨hn3, w3⟩ := nArgs_ok w3
        have rr := hg.rd (RDs.cons ((RD.ptr hi).ext (e2.trans e3)) (r2.ext e3)) r3
        exact ⟨by rw [r2.length]; exact hn, by rw [r3.length]; exact hn2, by rw [rr.length]; exact hn3, θ3, _, A3, Qh, rr, ra3, w3.h, ((k.ext e1).ext e2).ext e3⟩
    · exact w1.elim⟩
/-- f(e, ..), the keyword-only ones left out -/
def hCallD (n : Nat) (dd : List V) (sp : Sph) (t : TAh) : TEh := fun σ A Q => t σ A fun ds A1 => nArgs (ds.length + dd.length) n (Ask sp (ds ++ dd.map D.v) A1 Q)
theorem ph_callD (F : FnOk X.prog X.w X.K X.mg X.base CX0 k f fd ps (spOf X.K n sp)) (room : Room k X.A) (hg : Gl X x) (hm : X.mg x = some (.ref f)) (hk : PySem.W.keepIn X.K (.ref f) = true) (hb : ∃ us, Vals dd us ∧ L2.Binds X.K fd ps us)
    (ha : PA X (e :: es) (liftA X.K t)) (hdb : (x == ("__debug__" : Str)) = false := by decide) (hst : starEach (e :: es) X.env = (false, eval e X.env) :: starEach es X.env := by rfl)
    (hpl : (backTo pos (starEach es X.env)).any (·.1) = false := by rfl) : PE X (.Call (.Name x p) (e :: es) [] pos) (lift X.K (hCallD n dd sp t)) := by
  obtain ⟨us, hd, hb⟩ := hb
  exact (pe_call (E := fun _ _ _ => False) F room hg hm hk hb hd pass0 ha hdb hst hpl).imp fun σ H Q ⟨θ, σh, A, Qh, rs, ra, w, k⟩ => ⟨θ, σh, A, _, rs, ra, w, fun θ1 H1 A1 vs ds e1 ra1 r1 w1 => by
    obtain ⟨hn, w1⟩ := nArgs_ok w1
    exact ⟨by rw [List.length_append, r1.length]; exact hn, θ1, _, A1, Qh, r1.append (RDs.scalV dd), ra1, w1.h, k.ext e1⟩⟩
/-- f(e, .., k = v, ..) -/
def hCallK (N n mm : Nat) (gD : List D → List D → List D) (sp : Sph) (t tk : TAh) : TEh := fun σ A Q => t σ A fun ds A1 => tk σ A1 fun es A2 => nArgs ds.length n (nArgs es.length mm (nArgs (gD ds es).length N (Ask sp (gD ds es) A2 Q)))
theorem ph_callK (F : FnOk X.prog X.w X.K X.mg X.base CX0 k f fd ps (spOf X.K N sp)) (room : Room k X.A) (hg : Gl X x) (hm : X.mg x = some (.ref f)) (hk : PySem.W.keepIn X.K (.ref f) = true) (hgd : KwD gV gD) (hb : ∃ g, KBn X.K fd ps n ks g gV)
    (ha : PA X (e :: es) (liftA X.K t)) (hkw : PK X kws (liftA X.K tk)) (hall : (backToKw pos (keywordEach kws X.env)).all (·.1.isSome) = true := by rfl) (hks : (backToKw pos (keywordEach kws X.env)).filterMap (·.1) = ks := by rfl)
    (hdb : (x == ("__debug__" : Str)) = false := by decide) (hst : starEach (e :: es) X.env = (false, eval e X.env) :: starEach es X.env := by rfl)
    (hpl : ((backTo pos (starEach (e :: es) X.env)).any (·.1) || (backToKw pos (keywordEach kws X.env)).any (·.1.isNone)) = false := by rfl) : PE X (.Call (.Name x p) (e :: es) kws pos) (lift X.K (hCallK N n ks.length gD sp t tk)) := by
  obtain ⟨g, hb⟩ := hb
  exact (pe_callN (E := fun _ _ _ => False) F room hg hm hk hb pass0 ha hkw hall hks hdb hst hpl).imp fun σ H Q ⟨θ, σh, A, Qh, rs, ra, w, k⟩ => ⟨θ, σh, A, _, rs, ra, w, fun θ1 H1 A1 vs ds e1 ra1 r1 w1 => ⟨θ1, σh, A1, _, rs.ext e1, ra1, w1, fun θ2 H2 A2 zs es e2 ra2 r2 w2 => by
    obtain ⟨hn, w2⟩ := nArgs_ok w2
    obtain ⟨hn2, w2⟩ := nArgs_ok w2
    obtain ⟨hn3, w2⟩ := nArgs_ok w2
    have rr := hgd.rd (r1.ext e2) r2
    exact ⟨by rw [r1.length]; exact hn, by rw [r2.length]; exact hn2, by rw [rr.length]; exact hn3, θ2, _, A2, Qh, rr, ra2, w2.h, (k.ext e1).ext e2⟩⟩⟩
end
theorem kwd_app : KwD (fun vs zs => vs ++ zs) (fun ds es => ds ++ es) := ⟨fun r1 r2 => r1.append r2⟩
end Rp

/-! enumerate and zip of a list or a tuple, over data. -/
namespace PySem
set_option maxHeartbeats 1000000 in
theorem meets_enumerate_new1 {v : Value} {o : Obj} {H : Heap → Prop} (B : Begins v o H) :
    Meets (Builtin.«enumerate.__new__» ⟨[.type "enumerate", v], []⟩) (fun _ R s => H s.heap ∧
      R (.ok (.ret (.ref (s.heap.push o).objs.size))) { s with heap := (s.heap.push o).push { cls := .type "enumerate", data := .fields #[.none, .bool false, .ref s.heap.objs.size, rawInt 0, .none, .none] } }) :=
  .of_wp fun prog w A R s h => by
    obtain ⟨hp, g, d, tk, os⟩ := s; obtain ⟨h1, h⟩ := h
    have hsub := sub_enumerate
    have q1 : ∀ {A' : Around} {E : Value → Shared → Prop} {Q : Value → Shared → Prop}, Q (.ref hp.objs.size) ⟨hp.push o, g, d, tk, os⟩ → wpAny (model prog w) A' (pyIter v) Q E ⟨hp, g, d, tk, os⟩ :=
      fun q => B.iter prog w _ _ ⟨hp, g, d, tk, os⟩ _ h1 q
    wp_walk using q1
    refine wpAny_stack_any fun st => wpAny_pure ?_
    split
    · rename_i c _ _ _ _ _
      cases (c == Value.type "enumerate")
      · wp_walk using q1
        exact ⟨_, rfl, h⟩
      · wp_walk using q1
        exact ⟨_, rfl, h⟩
    · wp_walk using q1
      exact ⟨_, rfl, h⟩
/-- enumerate(v): its two new cells -/
theorem enum_begins1 {prog : Program} {w : World} {A : Around} {E : Value → Shared → Prop} {s : Shared} {v : Value} {o : Obj} {H : Heap → Prop} {Q : Value → Shared → Prop} (B : Begins v o H) (h1 : H s.heap)
    (h : ∀ h', IsEnum h' (s.heap.objs.size + 1) s.heap.objs.size 0 .none → h'.get? s.heap.objs.size = some o → h'.objs.size = s.heap.objs.size + 2 →
      (∀ b o, s.heap.get? b = some o → h'.get? b = some o) → Q (.ref (s.heap.objs.size + 1)) { s with heap := h' }) :
    wpAny (model prog w) A (call (.type "enumerate") [v]) Q E s := by
  refine callType_new F.called_enumerate (by decide) (F.typeCall_enumerate_1 _) (F.newCall_enumerate_1 _) (fun obj => F.args_object_init_2 obj _) F.entry_enumerate_new
    (meets_enumerate_new1 B) ⟨h1, ?_⟩
  have hz : (s.heap.push o).objs.size = s.heap.objs.size + 1 := Heap.size_push ..
  show _ ∧ _
  rw [hz]
  have he : IsEnum ((s.heap.push o).push { cls := .type "enumerate", data := .fields #[.none, .bool false, .ref s.heap.objs.size, rawInt 0, .none, .none] }) (s.heap.objs.size + 1) s.heap.objs.size 0 .none := by
    have := Heap.get?_push_size (s.heap.push o) (o := { cls := .type "enumerate", data := .fields #[.none, .bool false, .ref s.heap.objs.size, rawInt 0, .none, .none] }) rfl
    rw [hz] at this; exact this
  refine ⟨⟨_, he, rfl⟩, h _ he (Heap.get?_push_of_some _ (Heap.get?_push_size _ B.free)) (by rw [Heap.size_push, hz]) fun b o x => Heap.get?_push_of_some _ (Heap.get?_push_of_some _ x)⟩
end PySem
namespace Rp
open PySem PySem.Spec PyProof.Rows L2
/-- the tuple at a, each item in a new pair -/
def IteT (K : PySem.W.Frag) (a : Addr) : It :=
  ⟨fun i H => ∃ (xs : List V) (x : V), SqT K H a xs ∧ xs[i]? = some x, fun i H v H' => ∃ T x, v = .ref T ∧ H T = none ∧ H' = upd H T (.tup [.int (i : Nat), x]) ∧ ∀ xs, SqT K H a xs → xs[i]? = some x, fun i H => ∃ xs : List V, SqT K H a xs ∧ xs.length ≤ i⟩
theorem turn_enumT {P : Program} {w : World} {K : PySem.W.Frag} {elts : List Expr} {kk : Nat} {tpos : Pos} (a e it : Addr) :
    Turn P w K (.Tuple elts kk tpos) (IteT K a) [e, it] e (fun i h => (∃ old, IsEnum h e it ((i : Nat) : Int) old) ∧ h.IsTupleIter it a i ∧ e ≠ it) where
  mem := by simp
  obj := fun i h st b hb => by
    obtain ⟨⟨old, he⟩, ⟨o, ho, hc, hd⟩, _⟩ := st
    have e' : b = e ∨ b = it := by simpa using hb
    rcases e' with z | z
    · rw [z]; exact ⟨_, he, fun v q => nomatch q⟩
    · rw [z]; exact ⟨o, ho, fun v q => by rw [hd] at q; cases q⟩
  keep := fun i h h' st k => let ⟨⟨old, he⟩, hi, hne⟩ := st; ⟨⟨old, k e (by simp) _ he⟩, hi.at fun o q => k it (by simp) o q, hne⟩
  item := by
    intro X hP hw hK hc i pins s σ H E I hf st hg
    subst hP hw hK
    obtain ⟨⟨old, he⟩, hit, hne⟩ := st
    obtain ⟨xs, x, hq, hx⟩ := hg
    obtain ⟨its, rv, p, hz⟩ := I.tuple hq
    obtain ⟨u, hu, ru⟩ := rv.get hx
    have hel : e < s.heap.objs.size := Heap.lt_size he
    have hil : it < s.heap.objs.size := by obtain ⟨_, q, _⟩ := hit; exact Heap.lt_size q
    have hea : e ≠ a := fun z => by
      obtain ⟨o, h1, h2, _⟩ := id p
      rw [← z] at h1
      have h3 := he.symm.trans h1
      cases h3
      injection h2 with h2
      exact absurd h2 (by decide)
    have hia : a ≠ it := fun z => by
      obtain ⟨o, h1, h2, _⟩ := id p
      obtain ⟨o', h3, h4, _⟩ := hit
      rw [z, h3] at h1
      cases h1
      rw [h4] at h2
      injection h2 with h2
      exact absurd h2 (by decide)
    have hin : its.toArray[i]? = some u := by simpa using hu
    have hlt : i < its.toArray.size := by
      obtain ⟨h, _⟩ := Array.getElem?_eq_some_iff.mp hin
      exact h
    have D := Draws.tuple (prog := X.prog) (w := X.w) (A := X.A.in1) (I.ok.hd hc) it a hia its.toArray
    refine wpAny_pyNext_enum_itemC D he ⟨hit, p⟩ hlt hne (by simp [hne, hea]) fun x' h' tk hP ho hst hT hsz hk => ?_
    have ex : x' = u := Option.some.inj (hP.symm.trans hin)
    subst ex
    obtain ⟨hit', _⟩ := hst
    refine ⟨_, rfl, wpAny_letOwnedTupleGo_enum (s := { s with heap := h', toks := tk + 1 }) ho fun h'' he' sb => ?_⟩
    have hT2 : h''.get? s.heap.objs.size = some { cls := .type "tuple", data := .seq #[.int (i : Nat) tk, x'] } := (sb.2 _ (Nat.ne_of_gt hel)).trans hT
    have new : ObjOk X.prog X.w (upd H s.heap.objs.size (.tup [.int (i : Nat), x])) h'' s.heap.objs.size (.tup [.int (i : Nat), x]) :=
      ⟨by show 2 ≤ sizeLine; decide, [.int (i : Nat) tk, x'], .cons ⟨_, rfl⟩ (.cons ru .nil), ⟨_, hT2, rfl, _, rfl⟩⟩
    have I1 : Inv X pins σ (upd H s.heap.objs.size (.tup [.int (i : Nat), x])) { s with heap := h'', toks := tk + 1 } :=
      I.turnedNew (ch := [e, it]) (fun b ob hb q => (sb.2 b (fun z => hb (by simp [z]))).trans (hk b ob (fun z => hb (by simp [z])) (fun z => hb (by simp [z])) q)) hf (Nat.le_refl _) new
    refine ⟨.ref s.heap.objs.size, _, I1, rfl, ⟨_, x, rfl, I.hok.fresh (Nat.le_refl _), rfl, fun ys hy => by rw [I.tuple_inj hy hq]; exact hx⟩, ⟨⟨x', ?_⟩, hit'.at fun o q => (sb.2 it (Ne.symm hne)).trans q, hne⟩, fun b hb => ?_⟩
    · have e1 : ((i + 1 : Nat) : Int) = (i : Int) + 1 := by omega
      rw [e1]; exact he'
    · have hb' : b < s.heap.objs.size := by
        have e' : b = e ∨ b = it := by simpa using hb
        rcases e' with z | z
        · rw [z]; exact hel
        · rw [z]; exact hil
      rw [upd_ne (Nat.ne_of_lt hb')]
      exact (hf b hb).1
  done := by
    intro X hP hw hK hc i pins s σ H E I hf st hg
    subst hP hw hK
    obtain ⟨⟨old, he⟩, hit, hne⟩ := st
    obtain ⟨xs, hq, hx⟩ := hg
    obtain ⟨its, rv, p, hz⟩ := I.tuple hq
    obtain ⟨f0, f1, f2, f3, f4, f5⟩ := hf it (by simp)
    have hl := rv.length
    have hia : a ≠ it := fun z => by
      obtain ⟨o, h1, h2, _⟩ := id p
      obtain ⟨o', h3, h4, _⟩ := hit
      rw [z, h3] at h1
      cases h1
      rw [h4] at h2
      injection h2 with h2
      exact absurd h2 (by decide)
    have hh : X.A.in1.in1.handled = none := I.ok.hd hc
    have D : Draws X.prog X.w X.A.in1 it [it, a] i (fun _ _ => True) (fun j h => j = i ∧ h.IsTupleIter it a j ∧ h.IsTuple a its.toArray) := {
      live := fun _ _ st => let ⟨o, ho, _⟩ := st.2.1; ⟨o, ho⟩
      frame := fun _ _ _ st hk => ⟨st.1, st.2.1.at fun o e => hk it (by simp) o e, st.2.2.at fun o e => hk a (by simp) o e⟩
      item := fun j s Q E hi st _ => absurd st.1 (by omega)
      done := fun s Q E st hE => wpAny_nextOf_tuple_end (I.ok.hd hc) st.2.1 st.2.2 (by simp; omega) hE }
    exact wpAny_pyNext_enum_endD D he ⟨rfl, hit, p⟩ fun h' eb => ⟨rfl, I.turned (t' := s.toks) (fun b o hb q => eb b o hb q) f0 f1 f3 f4 f5⟩
  self := fun A i s Q E st h => let ⟨⟨_, he⟩, _⟩ := st; wpAny_pyIter_enum he h
def iEnumA (K : PySem.W.Frag) (ta : TA) : TI := fun σ H R => ta σ H fun vs H1 => ∃ a, vs = [.ref a] ∧ ((∃ xs, SqL K H1 a xs ∧ R (Ite K a) H1) ∨ ∃ xs, SqT K H1 a xs ∧ R (IteT K a) H1)
theorem pi_enumA {X : Cx} {e : Expr} {ta : TA} {p pos tpos : Pos} {elts : List Expr} {kk : Nat} (hg : Gl X "enumerate") (hm : X.mg "enumerate" = none) (ha : PA X [e] ta) (hs : starEach [e] X.env = [(false, eval e X.env)] := by rfl) :
    PI X (.Tuple elts kk tpos) (.Call (.Name "enumerate" p) [e] [] pos) (iEnumA X.K ta) := by
  refine ⟨fun pins s σ H R I h => ?_⟩
  refine Call_ (ld_blt I hg hm boot_enumerate (PyProof.Rows.callWith_type1 (thn (ha.run pos pins s σ H _ I h) fun us s1 ⟨vs, H1, I1, r1, q1⟩ => ?_) hs rfl))
  obtain ⟨a, ex, q⟩ := q1
  subst ex
  cases r1 with
  | cons r rr =>
    cases rr
    cases r
    have fp : ∀ b ∈ [s1.heap.objs.size + 1, s1.heap.objs.size], FpOk X pins H1 b := fun b hb => by
      have e' : b = s1.heap.objs.size + 1 ∨ b = s1.heap.objs.size := by simpa using hb
      have hle : s1.heap.objs.size ≤ b := by
        rcases e' with z | z
        · rw [z]; exact Nat.le_add_right _ _
        · rw [z]; exact Nat.le_refl _
      exact I1.fpOk hle (I1.hok.fresh hle)
    rcases q with ⟨xs, hq, q⟩ | ⟨xs, hq, q⟩
    · obtain ⟨its, rv, p', hz⟩ := I1.list hq
      refine call_enumerate_list p'.isList fun h' he hit hsz hk => wpAny_pyIter_enum he ?_
      have I2 : Inv X pins σ H1 { s1 with heap := h' } := I1.kept (t' := s1.toks) hk
      exact ⟨s1.heap.objs.size + 1, [s1.heap.objs.size + 1, s1.heap.objs.size], _, _, H1, rfl, I2, turn_enum a (s1.heap.objs.size + 1) s1.heap.objs.size, ⟨⟨.none, he⟩, hit, Nat.succ_ne_self _⟩, fp, q⟩
    · obtain ⟨its, rv, p', hz⟩ := I1.tuple hq
      refine enum_begins1 (begins_tuple a its.toArray) p' fun h' he hit hsz hk => wpAny_pyIter_enum he ?_
      have I2 : Inv X pins σ H1 { s1 with heap := h' } := I1.kept (t' := s1.toks) hk
      exact ⟨s1.heap.objs.size + 1, [s1.heap.objs.size + 1, s1.heap.objs.size], _, _, H1, rfl, I2, turn_enumT a (s1.heap.objs.size + 1) s1.heap.objs.size, ⟨⟨.none, he⟩, ⟨_, hit, rfl, rfl⟩, Nat.succ_ne_self _⟩, fp, q⟩
/-! ### over data -/
def srcE (ds : List D) (lv : OH → Prop) : Src := ⟨ds.length, fun i => ds[i]?.map fun d => .tup [.v (.int (i : Nat)), d], lv⟩
def hEnum (t : TAh) : TIh := fun σ A R => t σ A fun ds A1 => match ds with
  | [.tup es] => R (srcE es fun _ => True) A1
  | [.ptr k] => ∃ es, A1[k]? = some (.lst es) ∧ R (srcE es fun A => A[k]? = some (.lst es)) A1
  | [.scr ns] => R (srcE (ns.map fun n => .v (.int n)) fun _ => True) A1
  | _ => False
section
variable {K : PySem.W.Frag}
theorem new_pair {θ : List Addr} {H : Hp} {A : OH} {T : Addr} {x y : V} {d e : D} (ra : RA K θ H A) (hp : H T = none) (rx : RD K θ H x d) (ry : RD K θ H y e) : Ext θ H θ (upd H T (.tup [x, y])) ∧ RA K θ (upd H T (.tup [x, y])) A ∧ RD K θ (upd H T (.tup [x, y])) (.ref T) (.tup [d, e]) :=
  ⟨.new0 hp, ra.new0 hp, .tup (SqT.of upd_same) ((RDs.cons rx (.cons ry .nil)).stab0 (stab_new hp))⟩
theorem rj_enumT {θ0 : List Addr} {H0 : Hp} {a : Addr} {xs : List V} {ds : List D} (hs : SqT K H0 a xs) (r : RDs K θ0 H0 xs ds) : RJ K θ0 H0 (IteT K a) (srcE ds fun _ => True) := fun θ H A i e ra _ => by
  have hs' := SqT.stab hs e.stab
  have r' := r.ext e
  refine ⟨fun hi => ⟨⟨xs, xs[i]'(by rw [r.length]; exact hi), hs', List.getElem?_eq_getElem _⟩, fun v H' y => ?_⟩, fun hi => ⟨xs, hs', by rw [r.length]; exact hi⟩⟩
  obtain ⟨T, x, rfl, hT, rfl, hx⟩ := y
  obtain ⟨d, h1, h2⟩ := r'.get' (hx xs hs')
  obtain ⟨p1, p2, p3⟩ := new_pair ra hT (.v (.int (i : Nat))) h2
  exact ⟨_, by show (ds[i]?).map _ = _; rw [h1]; rfl, p1, p2, p3⟩
theorem rj_enumL {θ0 : List Addr} {H0 : Hp} {a : Addr} {k : Nat} {ds : List D} (hk : θ0[k]? = some a) : RJ K θ0 H0 (Ite K a) (srcE ds fun A => A[k]? = some (.lst ds)) := fun θ H A i e ra (lv : A[k]? = some (.lst ds)) => by
  have hk' : θ[k]? = some a := by
    obtain ⟨t, rfl⟩ := e.pre
    rw [List.getElem?_append_left (List.getElem?_eq_some_iff.mp hk).1]; exact hk
  obtain ⟨xs, g, r⟩ := ra.ok _ _ _ hk' lv
  refine ⟨fun hi => ⟨⟨xs, xs[i]'(by rw [r.length]; exact hi), SqL.of g, List.getElem?_eq_getElem _⟩, fun v H' y => ?_⟩, fun hi => ⟨xs, SqL.of g, by rw [r.length]; exact hi⟩⟩
  obtain ⟨T, x, rfl, hT, rfl, hx⟩ := y
  obtain ⟨d, h1, h2⟩ := r.get' (hx xs (SqL.of g))
  obtain ⟨p1, p2, p3⟩ := new_pair ra hT (.v (.int (i : Nat))) h2
  exact ⟨_, by show (ds[i]?).map _ = _; rw [h1]; rfl, p1, p2, p3⟩
theorem rj_enumF {θ0 : List Addr} {H0 : Hp} {a : Addr} {ns : List Int} (hs : SqF K H0 a (ns.map V.int)) : RJ K θ0 H0 (Ite K a) (srcE (ns.map fun n => .v (.int n)) fun _ => True) := fun θ H A i e ra _ => by
  have hs' := (SqF.stab hs e.stab).l
  refine ⟨fun hi => ⟨⟨ns.map V.int, (ns.map V.int)[i]'(by rw [List.length_map]; simpa [srcE] using hi), hs', List.getElem?_eq_getElem _⟩, fun v H' y => ?_⟩, fun hi => ⟨_, hs', by rw [List.length_map]; simpa [srcE] using hi⟩⟩
  obtain ⟨T, x, rfl, hT, rfl, hx⟩ := y
  have q := hx _ hs'
  rw [List.getElem?_map] at q
  cases h : ns[i]? with
  | none => rw [h] at q; cases q
  | some n =>
    rw [h] at q
    cases q
    obtain ⟨p1, p2, p3⟩ := new_pair (x := .int (i : Nat)) (y := .int n) (d := .v (.int (i : Nat))) (e := .v (.int n)) ra hT (.v _) (.v _)
    exact ⟨_, by show ((ns.map fun n => D.v (.int n))[i]?).map _ = _; rw [List.getElem?_map, h]; rfl, p1, p2, p3⟩
end
section
variable {X : Cx} {e e2 : Expr} {p pos tpos : Pos} {elts : List Expr} {kk : Nat}
theorem pih_enumerate {t : TAh} (hg : Gl X "enumerate") (hm : X.mg "enumerate" = none) (ha : PA X [e] (liftA X.K t)) (hs : starEach [e] X.env = [(false, eval e X.env)] := by rfl) :
    PI X (.Tuple elts kk tpos) (.Call (.Name "enumerate" p) [e] [] pos) (liftI X.K (hEnum t)) :=
  (pi_enumA hg hm ha hs).imp fun σ H R ⟨θ, σh, A, Rh, rs, ra, w, k⟩ => ⟨θ, σh, A, _, rs, ra, w, fun θ1 H1 A1 vs ds e1 ra1 r1 w1 => by
    split at w1
    · obtain ⟨v, rfl, rv⟩ := r1.one
      cases rv with
      | tup hs r => exact ⟨_, rfl, .inr ⟨_, hs, k _ _ _ _ _ e1 ra1 (rj_enumT hs r) w1⟩⟩
    · obtain ⟨es, h0, q⟩ := w1
      obtain ⟨v, rfl, rv⟩ := r1.one
      cases rv with
      | ptr hi =>
        obtain ⟨xs, g, r⟩ := ra1.ok _ _ _ hi h0
        exact ⟨_, rfl, .inl ⟨_, SqL.of g, k _ _ _ _ _ e1 ra1 (rj_enumL hi) q⟩⟩
    · obtain ⟨v, rfl, rv⟩ := r1.one
      cases rv with
      | scr hs => exact ⟨_, rfl, .inl ⟨_, hs.l, k _ _ _ _ _ e1 ra1 (rj_enumF hs) w1⟩⟩
    · exact w1.elim⟩
/-! ### zip -/
def srcZ (ds es : List D) (lv : OH → Prop) : Src := ⟨min ds.length es.length, fun i => match ds[i]?, es[i]? with | some d, some e => some (.tup [d, e]) | _, _ => none, lv⟩
def hZip (t : TAh) : TIh := fun σ A R => t σ A fun ds A1 => match ds with
  | [.tup ds, .tup es] => R (srcZ ds es fun _ => True) A1
  | [.ptr k, .ptr l] => ∃ ds es, A1[k]? = some (.lst ds) ∧ A1[l]? = some (.lst es) ∧ R (srcZ ds es fun A => A[k]? = some (.lst ds) ∧ A[l]? = some (.lst es)) A1
  | _ => False
theorem rj_zipT {K : PySem.W.Frag} {θ0 : List Addr} {H0 : Hp} {a b : Addr} {xs ys : List V} {ds es : List D} (hs : SqT K H0 a xs) (hs2 : SqT K H0 b ys) (r : RDs K θ0 H0 xs ds) (r2 : RDs K θ0 H0 ys es) : RJ K θ0 H0 (RZ.ItzT K a b) (srcZ ds es fun _ => True) := fun θ H A i e ra _ => by
  have hs' := SqT.stab hs e.stab
  have hs2' := SqT.stab hs2 e.stab
  have r' := r.ext e
  have r2' := r2.ext e
  have l1 := r.length
  have l2 := r2.length
  refine ⟨fun hi => ?_, fun hi => ⟨xs, ys, hs', hs2', ?_⟩⟩
  · have hi' : i < min ds.length es.length := hi
    refine ⟨⟨xs, ys, xs[i]'(by omega), ys[i]'(by omega), hs', hs2', List.getElem?_eq_getElem _, List.getElem?_eq_getElem _⟩, fun v H' y => ?_⟩
    obtain ⟨T, x, y, rfl, hT, rfl, hx, hy⟩ := y
    obtain ⟨d, h1, h2⟩ := r'.get' (hx xs hs')
    obtain ⟨d2, g1, g2⟩ := r2'.get' (hy ys hs2')
    obtain ⟨p1, p2, p3⟩ := new_pair ra hT h2 g2
    exact ⟨_, by show (match ds[i]?, es[i]? with | some d, some e => some (D.tup [d, e]) | _, _ => none) = _; rw [h1, g1], p1, p2, p3⟩
  · have hi' : min ds.length es.length ≤ i := hi
    omega
theorem rj_zipL {K : PySem.W.Frag} {θ0 : List Addr} {H0 : Hp} {a b : Addr} {k l : Nat} {ds es : List D} (hk : θ0[k]? = some a) (hl : θ0[l]? = some b) : RJ K θ0 H0 (Itz K a b) (srcZ ds es fun A => A[k]? = some (.lst ds) ∧ A[l]? = some (.lst es)) := fun θ H A i e ra (lv : A[k]? = some (.lst ds) ∧ A[l]? = some (.lst es)) => by
  obtain ⟨t, rfl⟩ := e.pre
  have hk' : (θ0 ++ t)[k]? = some a := by rw [List.getElem?_append_left (List.getElem?_eq_some_iff.mp hk).1]; exact hk
  have hl' : (θ0 ++ t)[l]? = some b := by rw [List.getElem?_append_left (List.getElem?_eq_some_iff.mp hl).1]; exact hl
  obtain ⟨xs, g, r⟩ := ra.ok _ _ _ hk' lv.1
  obtain ⟨ys, g', r2⟩ := ra.ok _ _ _ hl' lv.2
  have l1 := r.length
  have l2 := r2.length
  refine ⟨fun hi => ?_, fun hi => ⟨xs, ys, SqL.of g, SqL.of g', ?_⟩⟩
  · have hi' : i < min ds.length es.length := hi
    refine ⟨⟨xs, ys, xs[i]'(by omega), ys[i]'(by omega), SqL.of g, SqL.of g', List.getElem?_eq_getElem _, List.getElem?_eq_getElem _⟩, fun v H' y => ?_⟩
    obtain ⟨T, x, y, rfl, hT, rfl, hx, hy⟩ := y
    obtain ⟨d, h1, h2⟩ := r.get' (hx xs (SqL.of g))
    obtain ⟨d2, g1, g2⟩ := r2.get' (hy ys (SqL.of g'))
    obtain ⟨p1, p2, p3⟩ := new_pair ra hT h2 g2
    exact ⟨_, by show (match ds[i]?, es[i]? with | some d, some e => some (D.tup [d, e]) | _, _ => none) = _; rw [h1, g1], p1, p2, p3⟩
  · have hi' : min ds.length es.length ≤ i := hi
    omega
theorem pih_zip {t : TAh} (hg : Gl X "zip") (hm : X.mg "zip" = none) (ha : PA X [e, e2] (liftA X.K t))
    (hs : starEach [e, e2] X.env = (false, eval e X.env) :: starEach [e2] X.env := by rfl) (hpl : (backTo pos (starEach [e2] X.env)).any (·.1) = false := by rfl) :
    PI X (.Tuple elts kk tpos) (.Call (.Name "zip" p) [e, e2] [] pos) (liftI X.K (hZip t)) :=
  (RZ.pi_zipA hg hm ha hs hpl).imp fun σ H R ⟨θ, σh, A, Rh, rs, ra, w, k⟩ => ⟨θ, σh, A, _, rs, ra, w, fun θ1 H1 A1 vs ds e1 ra1 r1 w1 => by
    split at w1
    · obtain ⟨x, y, rfl, rx, ry⟩ := r1.two
      cases rx with
      | tup hs r =>
        cases ry with
        | tup hs2 r2 => exact ⟨_, _, _, _, rfl, .inr ⟨hs, hs2, k _ _ _ _ _ e1 ra1 (rj_zipT hs hs2 r r2) w1⟩⟩
    · obtain ⟨ds, es, h0, h1, q⟩ := w1
      obtain ⟨x, y, rfl, rx, ry⟩ := r1.two
      cases rx with
      | ptr hi =>
        cases ry with
        | ptr hj =>
          obtain ⟨xs, g, r⟩ := ra1.ok _ _ _ hi h0
          obtain ⟨ys, g', r'⟩ := ra1.ok _ _ _ hj h1
          exact ⟨_, _, _, _, rfl, .inl ⟨SqL.of g, SqL.of g', k _ _ _ _ _ e1 ra1 (rj_zipL hi hj) q⟩⟩
    · exact w1.elim⟩
end
end Rp

/-! == by an own __eq__, over data: what it makes on the way is new. -/
namespace Rp
open PySem PySem.Spec PyProof.Rows L2
/-- what the written part says of a class with an own == -/
structure EqK (K : PySem.W.Frag) (C fE : Addr) : Prop where
  eq : PySem.W.findIn K (.ref C) "__eq__" = some (some (.ref fE))
  eqf : PySem.W.isFn K (.ref fE) = true
/-- x == y, x an instance with an own ==, y of a kind that isn't asked first -/
def rEqO (K : PySem.W.Frag) (C : Addr) (sp : Sp) : R2 := fun x y H Q => ∃ a dx fs t, x = .ref a ∧ H a = some (.ins C dx fs) ∧ TyX K H y t ∧ PySem.W.notFirst K C t = true ∧ sp [.ref a, y] H (fun v H' => ∃ b, v = .bl b ∧ Q (.bl b) H') (fun _ _ _ => False)
section
variable {X : Cx} {C fE : Addr} {fdE : FuncData} {k : Nat} {sp : Sp}
theorem op_eqO (Z : EqK X.K C fE) (FE : FnOk X.prog X.w X.K X.mg X.base CX0 k fE fdE ["self", "other"] sp) (bE : L2.Binds X.K fdE ["self", "other"] []) (hr : Room k X.A) : OpR X (compareOp .Eq) (rEqO X.K C sp) := by
  intro pins s σ H x y v u Q I rx ry h
  obtain ⟨a, dx, fs, t, rfl, ha, ty, nf, hsp⟩ := h
  cases rx
  show wpAny (model X.prog X.w) X.A (richCompare .Eq (.ref a) u) (EP X pins σ Q) X.xe s
  obtain ⟨mA, J, _⟩ := ins_get I.hok ha
  obtain ⟨od, J, _⟩ := J.look
  obtain ⟨Pz, KX, pz, _⟩ := kit_of I ry ty
  obtain ⟨m, hF⟩ := I.fr
  refine PySem.W.cmp_K (op := .Eq) (tb := t) hr.units0 hF I.ok.mod.kin J (KX.ty _ _ I.kIn pz) nf Z.eq Z.eqf ?_
  refine wpAny_call (codeAny_mono (FE.run X.A X.stack s H ⟨[.ref a, u], []⟩ [.ref a, u] [.ref a, y] _ _ hr I.env0 (by
    have := bE s [.ref a, u] I.kIn (by rfl)
    simpa using this) (.cons rfl (.cons ry .nil)) hsp) fun r s' hq => ?_)
  cases r with
  | error e => exact (pass0 (X := X)) pins σ H s e s' I hq
  | ok fl =>
    cases fl with
    | ret w =>
      obtain ⟨z, H', I', rz, b, ez, q⟩ := I.after hq
      subst ez
      cases rz
      exact ⟨.bl b, H', I', rfl, q⟩
    | next => exact False.elim hq
    | brk => exact False.elim hq
    | cont => exact False.elim hq
end
def hEqO (K : PySem.W.Frag) (C : Addr) (sp : Sph) : R2h := fun d e A Q => match d with
  | .ptr i => ∃ fs t, A[i]? = some (.ins C fs) ∧ TyD K A e t ∧ PySem.W.notFirst K C t = true ∧ Ask sp [.ptr i, e] A fun r A' => ∃ b, r = .v (.bl b) ∧ Q (.v (.bl b)) A'
  | _ => False
theorem l_eqO {K : PySem.W.Frag} {C : Addr} {sp : Sph} : LR K (rEqO K C (spOf K 2 sp)) (hEqO K C sp) := by
  intro θ H A x y d e Q Qh rd re ra w k
  unfold hEqO at w
  split at w
  · obtain ⟨fs, t, h0, ty, nf, w⟩ := w
    cases rd with
    | ptr hi =>
      obtain ⟨dx, xs, g, _, rf⟩ := ra.ok _ _ _ hi h0
      exact ⟨_, dx, xs, t, rfl, g, ty.ty ra re, nf, rfl, θ, _, A, _, .cons (.ptr hi) (.cons re .nil), ra, w.h, fun θ' H' A' v d e' ra' r q => by
        obtain ⟨b, rfl, q⟩ := q
        cases r
        exact ⟨b, rfl, k _ _ _ _ _ e' ra' (.v _) q⟩⟩
  · exact w.elim
theorem notFirst_self {K : PySem.W.Frag} {C : Addr} : PySem.W.notFirst K C (.ref C) = true := by
  unfold PySem.W.notFirst
  simp
end Rp

/-! len by an own __len__, len(range(n)), over data. -/
namespace Rp
open PySem PySem.Spec PyProof.Rows L2
section
variable {X : Cx} {e : Expr} {x1 x2 : Str} {p1 p2 q1 q2 : Pos} {t : TAh}
/-- len(range(n)) -/
def hLenRng (t : TAh) : TEh := fun σ A Q => t σ A fun ds A1 => match ds with
  | [.v (.int n)] => (0 ≤ n ∧ n < 2 ^ 62) ∧ Q (.v (.int n)) A1
  | _ => False
theorem ph_lenRng (hg : Gl X "len") (hm : X.mg "len" = none) (hg2 : Gl X "range") (hm2 : X.mg "range" = none) (ha : PA X [e] (liftA X.K t)) (he : starEach [e] X.env = (false, eval e X.env) :: starEach [] X.env := by rfl)
    (he2 : starEach [Expr.Call (.Name "range" p2) [e] [] q2] X.env = (false, eval (.Call (.Name "range" p2) [e] [] q2) X.env) :: starEach [] X.env := by rfl)
    : PE X (.Call (.Name "len" p1) [.Call (.Name "range" p2) [e] [] q2] [] q1) (lift X.K (hLenRng t)) :=
  (pe_callB call_lenRng hg hm PySem.boot_len (pa_cons (pe_callTy call_range1 hg2 hm2 PyProof.Rows.boot_range ha (by decide) (by decide) he (by rfl)) pa_nil he2) (by decide) (by decide) he2 (by rfl)).imp fun σ H Q ⟨θ, σh, A, Qh, rs, ra, w, k⟩ => ⟨θ, σh, A, _, rs, ra, w, fun θ1 H1 A1 vs ds e1 ra1 r1 w1 => by
    split at w1
    · rename_i n
      rw [r1.ints1]
      refine ⟨n, rfl, fun p hp => ?_⟩
      obtain ⟨m, rfl⟩ := Int.eq_ofNat_of_zero_le w1.1.1
      refine ⟨p, m, rfl, upd_same, by have := w1.1.2; omega, ?_⟩
      exact k _ _ _ _ _ (e1.trans (.new0 hp)) (ra1.new0 hp) (.v _) w1.2
    · exact w1.elim⟩
end
/-! ### len(x), x's own __len__ -/
def hLenI (C : Addr) (sp : Sph) : List D → OH → KH → Prop
  | [.ptr i], A, Q => ∃ fs, A[i]? = some (.ins C fs) ∧ Ask sp [.ptr i] A fun r A' => ∃ n : Nat, r = .v (.int n) ∧ n < 2 ^ 62 ∧ Q (.v (.int n)) A'
  | _, _, _ => False
theorem l_lenI {K : PySem.W.Frag} {C : Addr} {sp : Sph} : LC K (rLenI C (spOf K 1 sp) fun _ _ _ => False) (hLenI C sp) := by
  intro θ H A xs ds Q Qh r ra w k
  unfold hLenI at w
  split at w
  · obtain ⟨fs, h0, w⟩ := w
    obtain ⟨x, rfl, rx⟩ := r.one
    cases rx with
    | ptr hi =>
      obtain ⟨dx, xs, g, _, rf⟩ := ra.ok _ _ _ hi h0
      refine ⟨_, dx, xs, rfl, g, rfl, θ, _, A, _, .cons (.ptr hi) .nil, ra, w.h, fun θ' H' A' v d e' ra' r q => ?_⟩
      obtain ⟨n, rfl, hn, q⟩ := q
      cases r
      exact ⟨n, rfl, hn, k _ _ _ _ _ e' ra' (.v _) q⟩
  · exact w.elim
end Rp

/-! The deck of the laws of roads, and what is drawn from it. -/
namespace Rp
open PySem PySem.Spec PyProof.Rows L2
local macro_rules | `(tactic| walk_at "w") => `(tactic| (conv => whnf))
abbrev topS (i : Nat) : Stmt := PySem.Challenge.pw_rateplan_k14_whole_great_roads.main.body.getD i (.Pass ⟨0, 0, 0, 0⟩)
/-- the built-in names are as they were -/
structure Bi (mg : Str → Option Value) : Prop where
  int : mg "int" = none
  len : mg "len" = none
  range : mg "range" = none
  tuple : mg "tuple" = none
  list : mg "list" = none
  max : mg "max" = none
  min : mg "min" = none
  sum : mg "sum" = none
  isinstance : mg "isinstance" = none
  repr : mg "repr" = none
  str : mg "str" = none
  abs : mg "abs" = none
  enumerate : mg "enumerate" = none
  zip : mg "zip" = none
  bool : mg "bool" = none
abbrev sDeck : Stmt := topS 6
theorem scDeck : FnScope ["_law_script", "_law_cells", "_law_seed", "_law_cell"] ["_law_script"] (defScope sDeck) :=
  ⟨rfl, rfl, rfl, by decide +kernel, rfl, by decide +kernel, by decide +kernel⟩
abbrev sDraw : Stmt := topS 7
theorem scDraw : FnScope ["_law_deck_here", "_law_ways", "_law_cell", "_law_number"] ["_law_deck_here", "_law_ways"] (defScope sDraw) :=
  ⟨rfl, rfl, rfl, by decide +kernel, rfl, by decide +kernel, by decide +kernel⟩
/-- the deck at k, its cells at c -/
structure DeckAt (A : OH) (k c : Nat) : Prop where
  deck : ∃ s n, A[k]? = some (.lst [.ptr c, .v (.int s), .v (.int n)])
  cells : ∃ cs, A[c]? = some (.lst (dI cs)) ∧ cs.length ≤ 63
theorem DeckAt.ne {A : OH} {k c : Nat} (d : DeckAt A k c) : k ≠ c := fun e => by
  obtain ⟨s, n, h⟩ := d.deck
  obtain ⟨cs, h', _⟩ := d.cells
  subst e
  rw [h] at h'
  injection h' with h'
  injection h' with h'
  cases cs with
  | nil => cases h'
  | cons a l => injection h' with h1 _; cases h1
theorem DeckAt.new {A A' : OH} {k c i : Nat} {o : O} (d : DeckAt A k c) (n : New A i o A') : DeckAt A' k c :=
  ⟨let ⟨s, m, h⟩ := d.deck; ⟨s, m, n.old h⟩, let ⟨cs, h, l⟩ := d.cells; ⟨cs, n.old h, l⟩⟩
theorem DeckAt.put {A A' : OH} {k c i : Nat} {o : O} (d : DeckAt A k c) (hi : i ∉ [k, c]) (n : Put A i o A') : DeckAt A' k c := by
  simp only [List.mem_cons, List.not_mem_nil, or_false, not_or] at hi
  exact ⟨let ⟨s, m, h⟩ := d.deck; ⟨s, m, n.old (Ne.symm hi.1) h⟩, let ⟨cs, h, l⟩ := d.cells; ⟨cs, n.old (Ne.symm hi.2) h, l⟩⟩
theorem DeckAt.lt {A : OH} {k c : Nat} (d : DeckAt A k c) : ∀ i ∈ [k, c], i < A.length := fun i hi => by
  obtain ⟨s, n, h⟩ := d.deck
  obtain ⟨cs, h', _⟩ := d.cells
  simp only [List.mem_cons, List.not_mem_nil, or_false] at hi
  rcases hi with rfl | rfl
  · exact lt_of_at h
  · exact lt_of_at h'
def spDeck : Sph := fun ds A Q => ∃ ns : List Int, ds = [.scr ns] ∧ ns.length ≤ 63 ∧ ∀ k c A', DeckAt A' k c → Kp [] A A' → Q (.ptr k) A'
def spDraw : Sph := fun ds A Q => ∃ k c w, ds = [.ptr k, .v (.int w)] ∧ DeckAt A k c ∧ 1 ≤ w ∧ w < 1000000 ∧ ∀ d A', 0 ≤ d → d < w → DeckAt A' k c → Kp [k, c] A A' → Q (.v (.int d)) A'
section
variable {P : Program} {w : World} {K : PySem.W.Frag} {mg : Str → Option Value} {base : Heap}
theorem ok_deck {f : Addr} {fd : FuncData} (F : Fun K "_law_deck" "_law_deck" sDeck f fd) (B : Bi mg) : FnG P w K mg base CX0 1 f fd ["_law_script"] (spOf K 1 spDeck) := by
  refine okGH F scDeck fun cdv Ao outer s H E gA hr => have hu := hr.units; ⟨_, pssh_cons (psh_set (i := 1) scDeck.nd rfl (Or.inl rfl) (ph_callTy l_list call_list_of (by rfl) B.list boot_list (pah_cons (ph_slice (ph_var (pv 0)) poh_none (poh_some (ph_c pe_int))) pah_nil)))
    (pssh_cons (psh_set (i := 2) scDeck.nd rfl (Or.inl rfl) (ph_c pe_int))
    (pssh_cons (psh_for lg_name PassesOwn.never rfl (pih_seq (ph_var (pv 1))) (pg_name (i := 3) scDeck.nd rfl (Or.inl rfl)) (pssh_one (psh_set (i := 2) scDeck.nd rfl (Or.inl rfl) (ph_op l_mod op_mod (ph_op l_add op_addA (ph_op l_add op_addA (ph_op l_mul op_mulA (ph_var (pv 2)) (ph_c pe_int)) (ph_op l_mod op_mod (ph_var (pv 3)) (ph_c pe_int))) (ph_c pe_int)) (ph_c pe_int)))))
    (pssh_one (psh_ret (ph_lst (pah_cons (ph_step (ph_var (pv 1)) (poh_some (ph_neg (ph_c pe_int)))) (pah_cons (ph_var (pv 2)) (pah_cons (ph_c pe_int) pah_nil)))))))), ?_⟩
  rintro ds A Q ⟨ns, rfl, hn, q⟩
  walk_at "w"
  intro k0 A0 n0
  walk_at "w"
  refine ⟨_, n0.get, fun k1 A1 n1 => ?_⟩
  walk_at "w"
  refine ⟨_, n1.get, fun i σ A' => ∃ s v, σ = [some (.scr ns), some (.ptr k1), some (.v (.int s)), v] ∧ A' = A1, ⟨_, _, rfl, rfl⟩, ?_, ?_, ?_⟩
  · rintro i σ A' _ ⟨_, _, _, rfl⟩
    exact n1.get
  · rintro i d σ A' hi hd ⟨sd, v, rfl, rfl⟩
    obtain ⟨z, hz, rfl⟩ := dI_at hd
    walk_at "w"
    refine ⟨.inr ⟨by decide, by decide⟩, ?_⟩
    walk_at "w"
    refine ⟨by decide, ?_⟩
    walk_at "w"
    refine ⟨by decide, ?_⟩
    exact ⟨_, _, rfl, rfl⟩
  · rintro σ A' ⟨sd, v, rfl, rfl⟩
    walk_at "w"
    refine ⟨_, n1.get, fun k2 A2 n2 => ?_⟩
    walk_at "w"
    intro k3 A3 n3
    refine q k3 k2 A3 ⟨⟨_, _, n3.get⟩, ⟨pickG (cutI ns none (some 63)) (-1), ?_, ?_⟩⟩ ((((Kp.of_new n0).new n1).new n2).new n3)
    · rw [← pickG_dI]; exact n3.old n2.get
    · exact Nat.le_trans (pickG_len _ _) (Nat.le_trans (cutI_len _ _ _) hn)
theorem ok_draw {f : Addr} {fd : FuncData} (F : Fun K "_law_draw" "_law_draw" sDraw f fd) (B : Bi mg) : FnG P w K mg base CX0 1 f fd ["_law_deck_here", "_law_ways"] (spOf K 2 spDraw) := by
  refine okGH F scDraw fun cdv Ao outer s H E gA hr => have hu := hr.units; ⟨_, pssh_cons (psh_asg lg_sub (ph_op l_add op_addA (ph_ix l_ix ix_seq (ph_var (pv 0)) (ph_c pe_int) (fun _ _ => rfl)) (ph_c pe_int)) (pgh_sub (ph_var (pv 0)) (ph_c pe_int)))
    (pssh_cons (psh_set (i := 2) scDraw.nd rfl (Or.inl rfl) (ph_ix l_ix ix_seq (ph_var (pv 0)) (ph_c pe_int) (fun _ _ => rfl)))
    (pssh_cons (psh_if (pth_cmp l_ne (op_neA hu) (ph_ix l_ix ix_seq (ph_var (pv 0)) (ph_c pe_int) (fun _ _ => rfl)) (ph_lst (pah_nil)) (nomark _)) (pssh_cons (psh_set (i := 2) scDraw.nd rfl (Or.inl rfl) (ph_pop (ph_ix l_ix ix_seq (ph_var (pv 0)) (ph_c pe_int) (fun _ _ => rfl))))
      (pssh_one (psh_if (pth_cmp l_ge op_ge (ph_var (pv 2)) (ph_op l_pow op_pow (ph_c pe_int) (ph_c pe_int)) (nomark _)) (pssh_cons (psh_expr (ph_app (ph_ix l_ix ix_seq (ph_var (pv 0)) (ph_c pe_int) (fun _ _ => rfl)) (pah_cons (ph_op l_div op_fdiv (ph_var (pv 2)) (ph_var (pv 1))) pah_nil)))
        (pssh_one (psh_ret (ph_op l_mod op_mod (ph_var (pv 2)) (ph_var (pv 1)))))) (pssh_nil)))) (pssh_nil))
    (pssh_cons (psh_set (i := 3) scDraw.nd rfl (Or.inl rfl) (ph_op l_mod op_mod (ph_op l_mul op_mulA (ph_op l_add op_addA (ph_op l_add op_addA (ph_op l_mod op_mod (ph_var (pv 2)) (ph_c pe_int)) (ph_op l_mul op_mulA (ph_c pe_int) (ph_ix l_ix ix_seq (ph_var (pv 0)) (ph_c pe_int) (fun _ _ => rfl)))) (ph_c pe_int)) (ph_c pe_int)) (ph_c pe_int)))
    (pssh_cons (psh_set (i := 3) scDraw.nd rfl (Or.inl rfl) (ph_op l_mod op_mod (ph_op l_add op_addA (ph_op l_add op_addA (ph_op l_mul op_mulA (ph_var (pv 3)) (ph_var (pv 3))) (ph_op l_mul op_mulA (ph_c pe_int) (ph_ix l_ix ix_seq (ph_var (pv 0)) (ph_c pe_int) (fun _ _ => rfl)))) (ph_c pe_int)) (ph_c pe_int)))
    (pssh_one (psh_ret (ph_op l_mod op_mod (ph_op l_div op_fdiv (ph_op l_mod op_mod (ph_op l_mul op_mulA (ph_var (pv 3)) (ph_op l_add op_addA (ph_op l_div op_fdiv (ph_var (pv 3)) (ph_c pe_int)) (ph_c pe_int))) (ph_c pe_int)) (ph_c pe_int)) (ph_var (pv 1))))))))), ?_⟩
  rintro ds A Q ⟨k, c, w, rfl, D, hw, hw2, q⟩
  obtain ⟨⟨sd, n, hk⟩, cs, hc, hl⟩ := D
  have ck : c ≠ k := fun e => (DeckAt.ne ⟨⟨sd, n, hk⟩, cs, hc, hl⟩) e.symm
  -- what is left: the number made by mixing
  walk_at "w"
  refine ⟨_, hk, _, rfl, ?_⟩
  walk_at "w"
  refine ⟨_, 2, hk, rfl, fun A1 p1 => ?_⟩
  have hk1 : A1[k]? = some (.lst [.ptr c, .v (.int sd), .v (.int (n + 1))]) := p1.get
  have hc1 := p1.old ck hc
  have kp1 : Kp [k, c] A A1 := fun i o nm h => p1.old (fun z => nm (by rw [z]; exact List.mem_cons_self)) h
  clear p1
  have mixed : ∀ (z : Int) (A2 : OH) (v3 : Option D), A2[k]? = some (.lst [.ptr c, .v (.int sd), .v (.int (n + 1))]) → (∃ cs, A2[c]? = some (.lst (dI cs)) ∧ cs.length ≤ 63) → Kp [k, c] A A2 →
      (hSeq (hAsg (hOp hMod (hOp hMul (hOp hAdd (hOp hAdd (hOp hMod (hVar 2) (hC (.v (.int 2147483629)))) (hOp hMul (hC (.v (.int 104729))) (hOp hIx (hVar 0) (hC (.v (.int 2)))))) (hC (.v (.int 41)))) (hC (.v (.int 48271)))) (hC (.v (.int 2147483647)))) (hgName 3)) (hSeq (hAsg (hOp hMod (hOp hAdd (hOp hAdd (hOp hMul (hVar 3) (hVar 3)) (hOp hMul (hC (.v (.int 69621))) (hOp hIx (hVar 0) (hC (.v (.int 2)))))) (hC (.v (.int 3)))) (hC (.v (.int 2147483587)))) (hgName 3)) (hRet (hOp hMod (hOp hDiv (hOp hMod (hOp hMul (hVar 3) (hOp hAdd (hOp hDiv (hVar 3) (hC (.v (.int 7)))) (hC (.v (.int 39373))))) (hC (.v (.int 2147483563)))) (hC (.v (.int 64)))) (hVar 1))))) (endH Q) [some (.ptr k), some (.v (.int w)), some (.v (.int z)), v3] A2 := by
    intro z A2 v3 hk2 hc2 kp2
    walk_at "w"
    refine ⟨by decide, ?_⟩
    walk_at "w"
    refine ⟨_, hk2, _, rfl, ?_⟩
    walk_at "w"
    refine ⟨.inl ⟨by decide, by decide⟩, ?_⟩
    walk_at "w"
    refine ⟨.inr ⟨by decide, by decide⟩, ?_⟩
    walk_at "w"
    refine ⟨by decide, ?_⟩
    generalize (z % 2147483629 + 104729 * (n + 1) + 41) * 48271 = y
    have y0 := Int.emod_nonneg y (show (2147483647 : Int) ≠ 0 by decide)
    have y1 := Int.emod_lt_of_pos y (show (0 : Int) < 2147483647 by decide)
    generalize y % 2147483647 = x at y0 y1 ⊢
    walk_at "w"
    refine ⟨.inl ⟨by omega, by omega⟩, ?_⟩
    walk_at "w"
    refine ⟨_, hk2, _, rfl, ?_⟩
    walk_at "w"
    refine ⟨.inl ⟨by decide, by decide⟩, ?_⟩
    walk_at "w"
    refine ⟨by decide, ?_⟩
    have x0 := Int.emod_nonneg (x * x + 69621 * (n + 1) + 3) (show (2147483587 : Int) ≠ 0 by decide)
    have x1 := Int.emod_lt_of_pos (x * x + 69621 * (n + 1) + 3) (show (0 : Int) < 2147483587 by decide)
    generalize (x * x + 69621 * (n + 1) + 3) % 2147483587 = u at x0 x1 ⊢
    walk_at "w"
    refine ⟨⟨by decide, by decide⟩, ?_⟩
    walk_at "w"
    refine ⟨.inl ⟨by omega, by omega⟩, ?_⟩
    walk_at "w"
    refine ⟨by decide, ?_⟩
    walk_at "w"
    refine ⟨⟨by decide, by decide⟩, ?_⟩
    walk_at "w"
    refine ⟨by omega, ?_⟩
    exact q _ A2 (Int.emod_nonneg _ (by omega)) (Int.emod_lt_of_pos _ (by omega)) ⟨⟨_, _, hk2⟩, hc2⟩ kp2
  walk_at "w"
  refine ⟨_, hk1, _, rfl, ?_⟩
  walk_at "w"
  refine ⟨_, hk1, _, rfl, ?_⟩
  walk_at "w"
  intro j A2 n2
  walk_at "w"
  refine ⟨_, EqD.ints (ms := []) (n2.old hc1) n2.get, ?_⟩
  walk_at "w"
  refine .n (fun h => ?_) (fun h => ?_)
  · have e : cs = cs.dropLast ++ [cs.getLast h] := (List.dropLast_concat_getLast h).symm
    generalize cs.dropLast = ini at e
    generalize cs.getLast h = z at e
    subst e
    rw [List.length_append, List.length_singleton] at hl
    walk_at "w"
    refine ⟨_, n2.old hk1, _, rfl, ?_⟩
    walk_at "w"
    refine ⟨dI ini, .v (.int z), by rw [n2.old hc1, dI_app]; rfl, fun A3 p3 => ?_⟩
    have hk3 := p3.old (Ne.symm ck) (n2.old hk1)
    have kp3 : Kp [k, c] A A3 := fun i o nm h => p3.old (fun z => nm (by rw [z]; exact List.mem_cons_of_mem _ List.mem_cons_self)) (n2.old (kp1 i o nm h))
    have hc3 := p3.get
    clear p3 n2 hk1 hc1 hk hc
    walk_at "w"
    refine ⟨⟨by decide, by decide, by decide⟩, ?_⟩
    walk_at "w"
    refine .d (fun h => ?_) (fun h => ?_)
    · walk_at "w"
      refine ⟨_, hk3, _, rfl, ?_⟩
      walk_at "w"
      refine ⟨⟨_, hc3⟩, ?_⟩
      walk_at "w"
      refine ⟨⟨by omega, by omega⟩, ?_⟩
      walk_at "w"
      refine ⟨_, hc3, by rw [dI_len]; omega, fun A4 p4 => ?_⟩
      walk_at "w"
      refine ⟨by omega, ?_⟩
      refine q _ A4 (Int.emod_nonneg _ (by omega)) (Int.emod_lt_of_pos _ (by omega)) ⟨⟨_, _, p4.old (Ne.symm ck) hk3⟩, ini ++ [z / w], ?_, ?_⟩ fun i o nm h => p4.old (fun z => nm (by rw [z]; exact List.mem_cons_of_mem _ List.mem_cons_self)) (kp3 i o nm h)
      · rw [p4.get, dI_app]; rfl
      · rw [List.length_append, List.length_singleton]; exact hl
    · exact mixed z A3 none hk3 ⟨ini, hc3, by omega⟩ kp3
  · exact mixed sd A2 none (n2.old hk1) ⟨cs, n2.old hc1, hl⟩ (kp1.new n2)
end
end Rp

/-! The pieces that are drawn, their speeds beat by beat. -/
namespace Rp
open PySem PySem.Spec PyProof.Rows L2
local macro_rules | `(tactic| walk_at "w") => `(tactic| (conv => whnf))
abbrev dPc (p : Nat × Nat) : D := .tup [.v (.int p.1), .v (.int p.2)]
abbrev dP (ps : List (Nat × Nat)) : List D := ps.map dPc
abbrev dN (ns : List Nat) : List D := ns.map fun n : Nat => .v (.int n)
/-- the speeds of pieces, beat by beat -/
def spd (ps : List (Nat × Nat)) : List Nat := ps.flatMap fun p => List.replicate p.1 p.2
structure FineP (ps : List (Nat × Nat)) : Prop where
  most : ps.length ≤ 12
  ok : ∀ p ∈ ps, 1 ≤ p.1 ∧ p.1 ≤ 50 ∧ p.2 ≤ 1000
  last : ∃ r p, ps = r ++ [p] ∧ 1 ≤ p.2
theorem dP_app (a b : List (Nat × Nat)) : dP (a ++ b) = dP a ++ dP b := List.map_append
theorem dN_app (a b : List Nat) : dN (a ++ b) = dN a ++ dN b := List.map_append
theorem dN_len (a : List Nat) : (dN a).length = a.length := List.length_map _
theorem dP_len (a : List (Nat × Nat)) : (dP a).length = a.length := List.length_map _
theorem dP_at {ps : List (Nat × Nat)} {i : Nat} {d : D} (h : (dP ps)[i]? = some d) : ∃ p, ps[i]? = some p ∧ d = dPc p := by
  rw [List.getElem?_map] at h
  cases e : ps[i]? with
  | none => rw [e] at h; cases h
  | some n => rw [e] at h; exact ⟨n, rfl, (Option.some.inj h).symm⟩
theorem spd_app (a b : List (Nat × Nat)) : spd (a ++ b) = spd a ++ spd b := List.flatMap_append
theorem spd_len {ps : List (Nat × Nat)} {n : Nat} (h : ∀ p ∈ ps, p.1 ≤ 50) (hn : ps.length ≤ n) : (spd ps).length ≤ n * 50 := by
  induction ps generalizing n with
  | nil => exact Nat.zero_le _
  | cons p ps ih =>
    cases n with
    | zero => simp at hn
    | succ n =>
      have := ih (n := n) (fun q hq => h q (List.mem_cons_of_mem _ hq)) (by simpa using hn)
      have := h p List.mem_cons_self
      show (List.replicate p.1 p.2 ++ spd ps).length ≤ _
      rw [List.length_append, List.length_replicate]
      omega
theorem rep_flat {α : Type} (n : Nat) (x : α) : (List.replicate n [x]).flatten = List.replicate n x := by
  induction n with
  | zero => rfl
  | succ n ih => rw [List.replicate_succ, List.flatten_cons, ih, List.replicate_succ]; rfl
/-- two things at places 0, 1; four; five -/
theorem at2 {a b : D} {i : Int} (h0 : 0 ≤ i) (h1 : i < 2) : ∃ d, atI [a, b] i = some d ∧ (d = a ∨ d = b) := by
  have h : i = 0 ∨ i = 1 := by omega
  rcases h with rfl | rfl
  · exact ⟨a, rfl, .inl rfl⟩
  · exact ⟨b, rfl, .inr rfl⟩
theorem at4 {a b c e : D} {i : Int} (h0 : 0 ≤ i) (h1 : i < 4) : ∃ d, atI [a, b, c, e] i = some d ∧ (d = a ∨ d = b ∨ d = c ∨ d = e) := by
  have h : i = 0 ∨ i = 1 ∨ i = 2 ∨ i = 3 := by omega
  rcases h with rfl | rfl | rfl | rfl
  · exact ⟨a, rfl, .inl rfl⟩
  · exact ⟨b, rfl, .inr (.inl rfl)⟩
  · exact ⟨c, rfl, .inr (.inr (.inl rfl))⟩
  · exact ⟨e, rfl, .inr (.inr (.inr rfl))⟩
theorem at5 {a b c e f : D} {i : Int} (h0 : 0 ≤ i) (h1 : i < 5) : ∃ d, atI [a, b, c, e, f] i = some d ∧ (d = a ∨ d = b ∨ d = c ∨ d = e ∨ d = f) := by
  have h : i = 0 ∨ i = 1 ∨ i = 2 ∨ i = 3 ∨ i = 4 := by omega
  rcases h with rfl | rfl | rfl | rfl | rfl
  · exact ⟨a, rfl, .inl rfl⟩
  · exact ⟨b, rfl, .inr (.inl rfl)⟩
  · exact ⟨c, rfl, .inr (.inr (.inl rfl))⟩
  · exact ⟨e, rfl, .inr (.inr (.inr (.inl rfl)))⟩
  · exact ⟨f, rfl, .inr (.inr (.inr (.inr rfl)))⟩
theorem i01 (b : Bool) : (0 : Int) ≤ (if b = true then 1 else 0) ∧ (if b = true then (1 : Int) else 0) < 2 := by cases b <;> exact ⟨by decide, by decide⟩
theorem nat_of {z : Int} {lo hi : Nat} (h : (lo : Int) ≤ z) (h' : z ≤ hi) : ∃ b : Nat, (D.v (.int z)) = .v (.int b) ∧ lo ≤ b ∧ b ≤ hi := ⟨z.toNat, by rw [Int.toNat_of_nonneg (by omega)], by omega, by omega⟩
theorem encPc {A : OH} : Enc A dPc (fun p => .tuple [.int p.1, .int p.2]) 1 := Enc.nat.pair Enc.nat
theorem atI_last' {α : Type} {xs : List α} {v : α} : atI (xs ++ [v]) (-1) = some v := atI_last xs v
end Rp

/-! The class of roads: what every law of roads needs. -/
namespace Rp
open PySem PySem.Spec PyProof.Rows L2
local macro_rules | `(tactic| walk_at "w") => `(tactic| (conv => whnf))
/-- the class, as the written part has it -/
structure RdB (K : PySem.W.Frag) (C fI : Addr) : Prop where
  cl : Cls K C
  make : Mk K C fI
  np : NoAttr K C "pieces"
  ca : PySem.W.findIn K (.ref C) "__class__" = some (some (.builtin "object.__class__"))
  cn : PySem.W.specialIn K (.builtin "object.__class__") "__get__" = some (some (.builtin "getset_descriptor.__get__"))
  ct : PySem.W.takesIn K (.builtin "object.__class__") = some true
  cm : PySem.W.mroIn K C (.type "object") = some true
abbrev sRInit : Stmt := inClass (topS 1) 0
theorem scRInit : FnScope ["self", "pieces"] ["self", "pieces"] (defScope sRInit) :=
  ⟨rfl, rfl, rfl, by decide +kernel, rfl, by decide +kernel, by decide +kernel⟩
abbrev sRLast : Stmt := inClass (topS 1) 8
theorem scRLast : FnScope ["self"] ["self"] (defScope sRLast) :=
  ⟨rfl, rfl, rfl, by decide +kernel, rfl, by decide +kernel, by decide +kernel⟩
/-- a Road of these pieces -/
def RoadAt (C : Addr) (A : OH) (x : Nat) (ps : List (Nat × Nat)) : Prop := A[x]? = some (.ins C [("pieces", .tup (dP ps))])
def Ends1 (ps : List (Nat × Nat)) (l : Nat) : Prop := ∃ r p, ps = r ++ [p] ∧ l = p.2
theorem FineP.ends {ps : List (Nat × Nat)} (f : FineP ps) : ∃ l, Ends1 ps l ∧ 1 ≤ l := by
  obtain ⟨r, p, e, h⟩ := f.last
  exact ⟨p.2, ⟨r, p, e, rfl⟩, h⟩
def spRInit (C : Addr) : Sph := fun ds A Q => ∃ x d, ds = [.ptr x, d] ∧ A[x]? = some (.ins C []) ∧ ∀ A', Put A x (.ins C [("pieces", d)]) A' → Q (.v .non) A'
def spRLast (C : Addr) : Sph := fun ds A Q => ∃ x ps l, ds = [.ptr x] ∧ RoadAt C A x ps ∧ Ends1 ps l ∧ Q (.v (.int (l : Nat))) A
theorem made_road {C : Addr} {A1 A2 : OH} {i : Nat} {d : D} {W : KH} (n : New A1 i (.ins C []) A2) (h : ∀ A3, New A1 i (.ins C [("pieces", d)]) A3 → W (.v .non) A3) : Ask (spRInit C) [.ptr i, d] A2 W :=
  ⟨i, d, rfl, n.get, fun A' p => h A' ⟨n.eq, by rw [p.eq', n.eq', n.eq]; simp⟩⟩
section
variable {P : Program} {w : World} {K : PySem.W.Frag} {mg : Str → Option Value} {base : Heap} {C fI fL : Addr}
theorem ok_rinit {fd : FuncData} (F : Fun K "__init__" "Road.__init__" sRInit fI fd) (T : RdB K C fI) : FnOk P w K mg base CX0 1 fI fd ["self", "pieces"] (spOf K 2 (spRInit C)) := by
  refine okH F scRInit fun cdv Ao outer s H E hr => have hu := hr.units; ⟨_, pssh_one (psh_fld T.cl T.np (ph_var (pv 0)) (ph_var (pv 1)) rfl), ?_⟩
  rintro ds A Q ⟨x, d, rfl, hx, q⟩
  walk_at "w"
  refine ⟨_, hx, fun A1 p1 => ?_⟩
  exact q A1 p1
theorem ok_rlast {fd : FuncData} (F : Fun K "_last_speed" "Road._last_speed" sRLast fL fd) (T : RdB K C fI) : FnOk P w K mg base CX0 1 fL fd ["self"] (spOf K 1 (spRLast C)) := by
  refine okH F scRLast fun cdv Ao outer s H E hr => have hu := hr.units; ⟨_, pssh_one (psh_ret (ph_ix l_ix ix_seq (ph_ix l_ix ix_seq (ph_fld T.cl T.np (ph_var (pv 0)) rfl) (ph_neg (ph_c pe_int)) (fun _ _ => rfl)) (ph_c pe_int) (fun _ _ => rfl))), ?_⟩
  rintro ds A Q ⟨x, ps, l, rfl, hx, ⟨r, p, rfl, rfl⟩, q⟩
  walk_at "w"
  refine ⟨_, _, hx, rfl, dPc p, by rw [dP_app]; exact atI_last', ?_⟩
  walk_at "w"
  exact ⟨_, rfl, q⟩
end
end Rp

/-! Speeds beat by beat: their sums, the beat behind the one in which a size is whole. -/
namespace Rp
open PySem PySem.Spec PyProof.Rows L2
theorem spd_succ {ps : List (Nat × Nat)} {i : Nat} {p : Nat × Nat} (h : ps[i]? = some p) : spd (ps.take (i + 1)) = spd (ps.take i) ++ List.replicate p.1 p.2 := by
  rw [List.take_add_one, h, Option.toList_some, spd_app]
  congr 1
  show List.replicate p.1 p.2 ++ [] = _
  rw [List.append_nil]
theorem spd_split {ps : List (Nat × Nat)} {i : Nat} {p : Nat × Nat} (h : ps[i]? = some p) : ∃ r, spd ps = spd (ps.take i) ++ List.replicate p.1 p.2 ++ r := by
  refine ⟨spd (ps.drop (i + 1)), ?_⟩
  rw [← spd_succ h, ← spd_app, List.take_append_drop]
/-- the bits of the beats from f on, ahead of e; l the speed behind all -/
def sumC (L : List Nat) (f e : Nat) : Nat := ((L.drop f).take (e - f)).sum
def sumT (L : List Nat) (l f e : Nat) : Nat := sumC L f e + l * (e - max L.length f)
theorem sum_rep (n s : Nat) : (List.replicate n s).sum = n * s := by
  induction n with
  | zero => simp
  | succ n ih => rw [List.replicate_succ, List.sum_cons, ih, Nat.succ_mul, Nat.add_comm]
theorem sumC_app (L : List Nat) (n s f e : Nat) : sumC (L ++ List.replicate n s) f e = sumC L f e + s * (min (L.length + n) e - max L.length f) := by
  unfold sumC
  rw [List.drop_append, List.take_append, List.sum_append, List.length_drop, List.drop_replicate, List.take_replicate, sum_rep, Nat.mul_comm]
  congr 2
  omega
theorem getD_split {A R B : List Nat} {b l : Nat} : A.length ≤ b → b < A.length + R.length → (A ++ R ++ B).getD b l = R.getD (b - A.length) l := by
  intro h1 h2
  rw [List.getD_eq_getElem?_getD, List.getD_eq_getElem?_getD, List.getElem?_append_left (by rw [List.length_append]; omega), List.getElem?_append_right h1]
theorem dN_dI (L : List Nat) : dN L = dI (L.map fun n : Nat => (n : Int)) := by
  show L.map _ = (L.map _).map _
  rw [List.map_map]
  rfl
theorem sum_cast : ∀ L : List Nat, (L.map fun n : Nat => (n : Int)).sum = (L.sum : Nat)
  | [] => rfl
  | a :: L => by
    rw [List.map_cons, List.sum_cons, List.sum_cons, sum_cast L]
    push_cast
    rfl
theorem cutD_any (xs : List D) (i j : Nat) : cutD xs (some (i : Int)) (some (j : Int)) = (xs.drop i).take (j - i) := by
  unfold cutD
  rw [HT.sIx_nat, HT.sIx_nat]
  by_cases h : i ≤ xs.length
  · rw [Nat.min_eq_left h]
    by_cases h' : j ≤ xs.length
    · rw [Nat.min_eq_left h']
    · rw [Nat.min_eq_right (by omega), List.take_of_length_le (by rw [List.length_drop]; omega), List.take_of_length_le (by rw [List.length_drop]; omega)]
  · rw [Nat.min_eq_right (show xs.length ≤ i by omega), List.drop_length, List.drop_of_length_le (by omega)]
    simp
theorem spd_ends {ps : List (Nat × Nat)} {l : Nat} (h : Ends1 ps l) (ok : ∀ p ∈ ps, 1 ≤ p.1) : ∃ r, spd ps = r ++ [l] := by
  obtain ⟨r, p, rfl, rfl⟩ := h
  have := ok p (List.mem_append_right _ List.mem_cons_self)
  obtain ⟨n, hn⟩ : ∃ n, p.1 = n + 1 := ⟨p.1 - 1, by omega⟩
  refine ⟨spd r ++ List.replicate n p.2, ?_⟩
  rw [spd_app, List.append_assoc]
  congr 1
  show List.replicate p.1 p.2 ++ [] = _
  rw [List.append_nil, hn, List.replicate_succ']
/-- sums of beats, one part behind the other -/
theorem take_sum (L : List Nat) (a b : Nat) : (L.take (a + b)).sum = (L.take a).sum + ((L.drop a).take b).sum := by
  rw [List.take_add, List.sum_append]
theorem sumT_add (L : List Nat) (l f m e : Nat) (h1 : f ≤ m) (h2 : m ≤ e) : sumT L l f m + sumT L l m e = sumT L l f e := by
  unfold sumT sumC
  have h : ((L.drop f).take (e - f)).sum = ((L.drop f).take (m - f)).sum + ((L.drop m).take (e - m)).sum := by
    rw [show e - f = (m - f) + (e - m) by omega, take_sum, List.drop_drop, show f + (m - f) = m by omega]
  rw [h]
  have h3 : l * (m - max L.length f) + l * (e - max L.length m) = l * (e - max L.length f) := by
    rw [← Nat.mul_add]
    congr 1
    omega
  omega
theorem sumT_none (L : List Nat) (l f : Nat) : sumT L l f f = 0 := by
  unfold sumT sumC
  rw [Nat.sub_self, show f - max L.length f = 0 by omega]
  simp
theorem sumT_one (L : List Nat) (l f : Nat) : sumT L l f (f + 1) = L.getD f l := by
  unfold sumT sumC
  rw [show f + 1 - f = 1 by omega, List.getD_eq_getElem?_getD]
  by_cases h : f < L.length
  · rw [List.getElem?_eq_getElem h, show f + 1 - max L.length f = 0 by omega, List.drop_eq_getElem_cons h, List.take_succ_cons, List.take_zero, List.sum_cons, List.sum_nil, Nat.mul_zero]
    rfl
  · rw [List.getElem?_eq_none (by omega), List.drop_of_length_le (by omega), show f + 1 - max L.length f = 1 by omega]
    simp

theorem take_sum_mono (L : List Nat) {a b : Nat} (h : a ≤ b) : (L.take a).sum ≤ (L.take b).sum := by
  rw [show b = a + (b - a) by omega, take_sum]
  omega
theorem sumT_mono (L : List Nat) (l f : Nat) {e e' : Nat} (h : e ≤ e') : sumT L l f e ≤ sumT L l f e' := by
  unfold sumT sumC
  have h1 := take_sum_mono (L.drop f) (show e - f ≤ e' - f by omega)
  have h2 := Nat.mul_le_mul_left l (show e - max L.length f ≤ e' - max L.length f by omega)
  omega
/-- the size is whole in the beat ahead of e -/
def IsEnd (L : List Nat) (l f s e : Nat) : Prop := f < e ∧ s ≤ sumT L l f e ∧ sumT L l f (e - 1) < s
theorem IsEnd.uniq {L : List Nat} {l f s e e' : Nat} (h : IsEnd L l f s e) (h' : IsEnd L l f s e') : e = e' := by
  obtain ⟨a1, a2, a3⟩ := h
  obtain ⟨b1, b2, b3⟩ := h'
  rcases Nat.lt_trichotomy e e' with c | c | c
  · have := sumT_mono L l f (show e ≤ e' - 1 by omega)
    omega
  · exact c
  · have := sumT_mono L l f (show e' ≤ e - 1 by omega)
    omega
theorem sumC_pre {A R : List Nat} {f e : Nat} (h : e ≤ A.length) : sumC (A ++ R) f e = sumC A f e := by
  unfold sumC
  rw [List.drop_append, List.take_append, show e - f - (A.drop f).length = 0 by rw [List.length_drop]; omega, List.take_zero, List.append_nil]
theorem sumC_all {A : List Nat} {f e : Nat} (h : A.length ≤ e) : sumC A f e = (A.drop f).sum := by
  unfold sumC
  rw [List.take_of_length_le (by rw [List.length_drop]; omega)]
theorem sumT_mid {A R : List Nat} {b s l f e : Nat} (h : max A.length f ≤ e) (h' : e ≤ A.length + b) : sumT (A ++ List.replicate b s ++ R) l f e = (A.drop f).sum + s * (e - max A.length f) := by
  unfold sumT
  rw [sumC_pre (by rw [List.length_append, List.length_replicate]; exact h'), sumC_app, sumC_all (by omega), Nat.min_eq_right h', show e - max (A ++ List.replicate b s ++ R).length f = 0 by rw [List.length_append, List.length_append, List.length_replicate]; omega]
  omega
theorem sumT_tail {L : List Nat} {l f e : Nat} (h : max L.length f ≤ e) : sumT L l f e = (L.drop f).sum + l * (e - max L.length f) := by
  unfold sumT
  rw [sumC_all (by omega)]
theorem drop_sum_rep (A : List Nat) (b s f : Nat) : ((A ++ List.replicate b s).drop f).sum = (A.drop f).sum + s * (A.length + b - max A.length f) := by
  rw [List.drop_append, List.sum_append, List.drop_replicate, sum_rep, Nat.mul_comm]
  congr 2
  omega
theorem ceil_ok {z s : Nat} (hz : 1 ≤ z) (hs : 1 ≤ s) : 1 ≤ (z + s - 1) / s ∧ z ≤ s * ((z + s - 1) / s) ∧ s * ((z + s - 1) / s - 1) < z := by
  have h1 := Nat.div_add_mod (z + s - 1) s
  have h2 := Nat.mod_lt (z + s - 1) (show 0 < s by omega)
  generalize (z + s - 1) / s = q at h1 ⊢
  generalize (z + s - 1) % s = r at h1 h2
  cases q with
  | zero => rw [Nat.mul_zero] at h1; omega
  | succ k =>
    rw [Nat.add_sub_cancel]
    have e : s * (k + 1) = s * k + s := Nat.mul_succ s k
    omega
/-- from where on the bits come by one speed -/
theorem isEnd_of {L : List Nat} {l f a s z S h : Nat} (hz : 1 ≤ z) (hs : 1 ≤ s) (ha : f ≤ a) (hh : a + (z + s - 1) / s ≤ h) (e : ∀ e, a ≤ e → e ≤ h → sumT L l f e = S + s * (e - a)) : IsEnd L l f (S + z) (a + (z + s - 1) / s) := by
  obtain ⟨c1, c2, c3⟩ := ceil_ok hz hs
  generalize (z + s - 1) / s = m at *
  refine ⟨by omega, ?_, ?_⟩
  · rw [e _ (by omega) (by omega), Nat.add_sub_cancel_left]
    omega
  · rw [e _ (by omega) (by omega), show a + m - 1 - a = m - 1 by omega]
    omega
end Rp

/-! Speeds of beats, sums of them. -/
namespace Rp
open PySem PySem.Spec PyProof.Rows L2
local macro_rules | `(tactic| walk_at "w") => `(tactic| (conv => whnf))
abbrev sSpeedAt : Stmt := inClass (topS 1) 4
theorem scSpeedAt : FnScope ["self", "beat", "left", "beats", "speed"] ["self", "beat"] (defScope sSpeedAt) :=
  ⟨rfl, rfl, rfl, by decide +kernel, rfl, by decide +kernel, by decide +kernel⟩
def spSpeedAt (C : Addr) : Sph := fun ds A Q => ∃ x ps l b, ds = [.ptr x, .v (.int (b : Nat))] ∧ RoadAt C A x ps ∧ Ends1 ps l ∧ Q (.v (.int ((spd ps).getD b l : Nat))) A
section
variable {P : Program} {w : World} {K : PySem.W.Frag} {mg : Str → Option Value} {base : Heap} {C fI fL fA : Addr} {fdL : FuncData}
theorem ok_speedat {fd : FuncData} (F : Fun K "speed_at" "Road.speed_at" sSpeedAt fA fd) (T : RdB K C fI) (FL : Fun K "_last_speed" "Road._last_speed" sRLast fL fdL) (bL : L2.Binds K fdL ["self"] []) (mL : Meth K C "_last_speed" fL) :
    FnOk P w K mg base CX0 2 fA fd ["self", "beat"] (spOf K 2 (spSpeedAt C)) := by
  have GL : FnOk P w K mg base CX0 1 fL fdL ["self"] (spOf K 1 (spRLast C)) := ok_rlast FL T
  refine okH F scSpeedAt fun cdv Ao outer s H E hr => have hu := hr.units; ⟨_, pssh_cons (psh_set (i := 2) scSpeedAt.nd rfl (Or.inl rfl) (ph_var (pv 1)))
    (pssh_cons (psh_for (lg_tup (lg_cons lg_name (lg_cons lg_name lg_nil)) (len_cons goes_name (len_cons goes_name len_nil))) PassesOwn.never rfl (pih_seq (ph_fld T.cl T.np (ph_var (pv 0)) rfl)) (pg_tup rfl (pgs_cons (pg_name (i := 3) scSpeedAt.nd rfl (Or.inl rfl)) (pgs_cons (pg_name (i := 4) scSpeedAt.nd rfl (Or.inl rfl)) (pgs_nil)))) (pssh_cons (psh_if (pth_cmp l_lt op_lt (ph_var (pv 2)) (ph_var (pv 3)) (nomark _)) (pssh_one (psh_ret (ph_var (pv 4)))) (pssh_nil))
      (pssh_one (psh_aug (i := 2) scSpeedAt.nd rfl (Or.inl rfl) (ph_var (pv 3)) ip_sub))))
    (pssh_one (psh_ret (ph_meth0 (ph_var (pv 0)) T.cl mL GL hr bL)))), ?_⟩
  rintro ds A Q ⟨x, ps, l, b, rfl, hx, hl, q⟩
  walk_at "w"
  refine ⟨_, _, hx, rfl, ?_⟩
  walk_at "w"
  refine ⟨fun i σ A' => ∃ z v3 v4, σ = [some (.ptr x), some (.v (.int b)), some (.v (.int z)), v3, v4] ∧ A' = A ∧ z = (b : Int) - (spd (ps.take i)).length ∧ 0 ≤ z, ⟨_, none, none, rfl, rfl, by simp [spd], by omega⟩, fun _ _ _ _ _ => trivial, ?_, ?_⟩
  · rintro i d σ A1 hi hd ⟨z, v3, v4, rfl, rfl, hz, hle⟩
    obtain ⟨p, hp, rfl⟩ := dP_at hd
    have es := spd_succ hp
    have el : (spd (ps.take (i + 1))).length = (spd (ps.take i)).length + p.1 := by rw [es, List.length_append, List.length_replicate]
    walk_at "w"
    refine .d (fun c => ?_) (fun c => ?_)
    · walk_at "w"
      obtain ⟨r, er⟩ := spd_split hp
      rw [er, getD_split (by omega) (by rw [List.length_replicate]; omega)] at q
      rw [List.getD_eq_getElem?_getD, List.getElem?_replicate, if_pos (by omega)] at q
      exact q
    · walk_at "w"
      exact ⟨_, _, _, rfl, rfl, by dsimp only; omega, by dsimp only; omega⟩
  · rintro σ A1 ⟨z, v3, v4, rfl, rfl, hz, hle⟩
    have e : ps.take (srcT (dP ps)).n = ps := by
      show ps.take (dP ps).length = ps
      rw [dP_len, List.take_length]
    rw [e] at hz
    walk_at "w"
    refine ⟨_, hx, rfl, ?_⟩
    walk_at "w"
    refine ⟨x, ps, l, rfl, hx, hl, ?_⟩
    rw [List.getD_eq_getElem?_getD, List.getElem?_eq_none (by omega)] at q
    exact q
end
end Rp

/-! Sums of speeds. -/
namespace Rp
open PySem PySem.Spec PyProof.Rows L2
local macro_rules | `(tactic| walk_at "w") => `(tactic| (conv => whnf))
abbrev sSumOf : Stmt := inClass (topS 1) 5
theorem scSumOf : FnScope ["self", "first", "last", "bits", "at", "beats", "speed", "end"] ["self", "first", "last"] (defScope sSumOf) :=
  ⟨rfl, rfl, rfl, by decide +kernel, rfl, by decide +kernel, by decide +kernel⟩
def spSumOf (C : Addr) : Sph := fun ds A Q => ∃ x ps l f e, ds = [.ptr x, .v (.int (f : Nat)), .v (.int (e : Nat))] ∧ RoadAt C A x ps ∧ Ends1 ps l ∧ l ≤ 1000 ∧ (∀ p ∈ ps, p.2 ≤ 1000) ∧ Q (.v (.int (sumT (spd ps) l f e : Nat))) A
section
variable {P : Program} {w : World} {K : PySem.W.Frag} {mg : Str → Option Value} {base : Heap} {C fI fL fA : Addr} {fdL : FuncData}
theorem ok_sumof {fd : FuncData} (F : Fun K "sum_of" "Road.sum_of" sSumOf fA fd) (T : RdB K C fI) (B : Bi mg) (FL : Fun K "_last_speed" "Road._last_speed" sRLast fL fdL) (bL : L2.Binds K fdL ["self"] []) (mL : Meth K C "_last_speed" fL) :
    FnOk P w K mg base CX0 2 fA fd ["self", "first", "last"] (spOf K 3 (spSumOf C)) := by
  have GL : FnOk P w K mg base CX0 1 fL fdL ["self"] (spOf K 1 (spRLast C)) := ok_rlast FL T
  refine okH F scSumOf fun cdv Ao outer s H E hr => have hu := hr.units; ⟨_, pssh_cons (psh_set (i := 3) scSumOf.nd rfl (Or.inl rfl) (ph_c pe_int))
    (pssh_cons (psh_set (i := 4) scSumOf.nd rfl (Or.inl rfl) (ph_c pe_int))
    (pssh_cons (psh_for (lg_tup (lg_cons lg_name (lg_cons lg_name lg_nil)) (len_cons goes_name (len_cons goes_name len_nil))) PassesOwn.never rfl (pih_seq (ph_fld T.cl T.np (ph_var (pv 0)) rfl)) (pg_tup rfl (pgs_cons (pg_name (i := 5) scSumOf.nd rfl (Or.inl rfl)) (pgs_cons (pg_name (i := 6) scSumOf.nd rfl (Or.inl rfl)) (pgs_nil)))) (pssh_cons (psh_set (i := 7) scSumOf.nd rfl (Or.inl rfl) (ph_op l_add op_addA (ph_var (pv 4)) (ph_var (pv 5))))
      (pssh_cons (psh_aug (i := 3) scSumOf.nd rfl (Or.inl rfl) (ph_op l_mul op_mulA (ph_var (pv 6)) (ph_callB l_max (call_maxA rfl) (by rfl) B.max (by decide +kernel) (pah_cons (ph_c pe_int) (pah_cons (ph_op l_sub op_sub (ph_callB l_min (call_minA rfl) (by rfl) B.min (by decide +kernel) (pah_cons (ph_var (pv 7)) (pah_cons (ph_var (pv 2)) pah_nil))) (ph_callB l_max (call_maxA rfl) (by rfl) B.max (by decide +kernel) (pah_cons (ph_var (pv 4)) (pah_cons (ph_var (pv 1)) pah_nil)))) pah_nil)))) ip_add)
      (pssh_one (psh_set (i := 4) scSumOf.nd rfl (Or.inl rfl) (ph_var (pv 7)))))))
    (pssh_one (psh_ret (ph_op l_add op_addA (ph_var (pv 3)) (ph_op l_mul op_mulA (ph_meth0 (ph_var (pv 0)) T.cl mL GL hr bL) (ph_callB l_max (call_maxA rfl) (by rfl) B.max (by decide +kernel) (pah_cons (ph_c pe_int) (pah_cons (ph_op l_sub op_sub (ph_var (pv 2)) (ph_callB l_max (call_maxA rfl) (by rfl) B.max (by decide +kernel) (pah_cons (ph_var (pv 4)) (pah_cons (ph_var (pv 1)) pah_nil)))) pah_nil))))))))), ?_⟩
  rintro ds A Q ⟨x, ps, l, f, e, rfl, hx, hl, l1, ok, q⟩
  walk_at "w"
  refine ⟨_, _, hx, rfl, ?_⟩
  walk_at "w"
  refine ⟨fun i σ A' => ∃ z y v5 v6 v7, σ = [some (.ptr x), some (.v (.int f)), some (.v (.int e)), some (.v (.int z)), some (.v (.int y)), v5, v6, v7] ∧ A' = A ∧ z = sumC (spd (ps.take i)) f e ∧ y = (spd (ps.take i)).length, ⟨_, _, none, none, none, rfl, rfl, by simp [spd, sumC], by simp [spd]⟩, fun _ _ _ _ _ => trivial, ?_, ?_⟩
  · rintro i d σ A1 hi hd ⟨z, y, v5, v6, v7, rfl, rfl, hz, hy⟩
    obtain ⟨p, hp, rfl⟩ := dP_at hd
    have hp1 := ok p (List.mem_of_getElem? hp)
    have es := spd_succ hp
    walk_at "w"
    refine ⟨.inl ⟨by omega, by omega⟩, ?_⟩
    walk_at "w"
    refine ⟨_, _, _, _, _, rfl, rfl, ?_, ?_⟩
    · rw [es, sumC_app]
      rw [hz, hy]
      have e1 : max (0 : Int) (min (((spd (ps.take i)).length : Nat) + (p.1 : Int)) (e : Int) - max ((spd (ps.take i)).length : Int) (f : Int)) = ((min ((spd (ps.take i)).length + p.1) e - max (spd (ps.take i)).length f : Nat) : Int) := by omega
      rw [e1]
      push_cast
      rfl
    · rw [es, List.length_append, List.length_replicate]
      rw [hy]
      push_cast
      rfl
  · rintro σ A1 ⟨z, y, v5, v6, v7, rfl, rfl, hz, hy⟩
    have e1 : ps.take (srcT (dP ps)).n = ps := by
      show ps.take (dP ps).length = ps
      rw [dP_len, List.take_length]
    rw [e1] at hz hy
    walk_at "w"
    refine ⟨_, hx, rfl, ?_⟩
    walk_at "w"
    refine ⟨x, ps, l, rfl, hx, hl, ?_⟩
    walk_at "w"
    refine ⟨.inl ⟨by omega, by omega⟩, ?_⟩
    have e2 : z + (l : Int) * max 0 ((e : Int) - max y (f : Int)) = (sumT (spd ps) l f e : Nat) := by
      unfold sumT
      rw [hz, hy, show max (0 : Int) ((e : Int) - max ((spd ps).length : Int) (f : Int)) = ((e - max (spd ps).length f : Nat) : Int) by omega]
      push_cast
      rfl
    walk_at "w"
    rw [e2]
    exact q
end
end Rp

/-! Road.fetched. -/
namespace Rp
open PySem PySem.Spec PyProof.Rows L2
local macro_rules | `(tactic| walk_at "w") => `(tactic| (conv => whnf))
abbrev sBeatsFor : Stmt := topS 4
theorem scBeatsFor : FnScope ["bits", "speed"] ["bits", "speed"] (defScope sBeatsFor) :=
  ⟨rfl, rfl, rfl, by decide +kernel, rfl, by decide +kernel, by decide +kernel⟩
abbrev sFetched : Stmt := inClass (topS 1) 6
theorem scFetched : FnScope ["self", "begin", "size", "wait", "first", "left", "at", "beats", "speed", "end", "bits"] ["self", "begin", "size", "wait"] (defScope sFetched) :=
  ⟨rfl, rfl, rfl, by decide +kernel, rfl, by decide +kernel, by decide +kernel⟩
def spBeatsFor : Sph := fun ds A Q => ∃ z s, ds = [.v (.int (z : Nat)), .v (.int (s : Nat))] ∧ 1 ≤ z ∧ 1 ≤ s ∧ s ≤ 100000 ∧ Q (.v (.int ((z + s - 1) / s : Nat))) A
def spFetched (C : Addr) : Sph := fun ds A Q => ∃ x ps l b s w, ds = [.ptr x, .v (.int (b : Nat)), .v (.int (s : Nat)), .v (.int (w : Nat))] ∧ RoadAt C A x ps ∧ Ends1 ps l ∧ 1 ≤ l ∧ (∀ p ∈ ps, p.2 ≤ 100000) ∧ 1 ≤ s ∧ ∀ e : Nat, IsEnd (spd ps) l (b + w) s e → Q (.v (.int e)) A
/-- the words of the call -/
theorem fetched_binds {K : PySem.W.Frag} {f : Addr} {fd : FuncData} (F : FunD K "fetched" "Road.fetched" (defArgs sFetched) (defBody sFetched) (defScope sFetched) [] [("wait", .int 0)] f fd) :
    (∃ us, Vals [V.int 0] us ∧ L2.Binds K fd ["self", "begin", "size", "wait"] us) ∧ ∃ g, KBn K fd ["self", "begin", "size", "wait"] 3 ["wait"] g (fun vs zs => vs ++ zs) := by
  refine ⟨FunD.binds0 (ps := ["self", "begin", "size", "wait"]) F 3 (by simp) rfl fun D doc pm an cdv ct us ks hl hk => ?_, ?_⟩
  · match us, hl, ks, hk with
    | [_, _, _], _, [_], _ => exact ⟨_, _, _, _, _, _, rfl, rfl, rfl⟩
  · obtain ⟨mv, h⟩ := FunD.kbinds0 (ps := ["self", "begin", "size", "wait"]) F 3 ["wait"] [] (fun {α} us mv ws => us ++ ws) (by simp) (fun q hq => nomatch hq) (fun r1 _ r2 => r1.append r2) fun D doc pm an cdv ct us mv ws l1 l2 l3 => by
      match us, l1, ws, l3, mv, l2 with
      | [_, _, _], _, [_], _, [], _ => exact rfl
    exact ⟨_, h⟩
section
variable {P : Program} {w : World} {K : PySem.W.Frag} {mg : Str → Option Value} {base : Heap} {C fI fL fA fB : Addr} {fdL fdB : FuncData}
theorem ok_beatsfor {f : Addr} {fd : FuncData} (F : Fun K "_beats_for" "_beats_for" sBeatsFor f fd) : FnOk P w K mg base CX0 1 f fd ["bits", "speed"] (spOf K 2 spBeatsFor) := by
  refine okH F scBeatsFor fun cdv Ao outer s H E hr => have hu := hr.units; ⟨_, pssh_one (psh_ret (ph_op l_div op_fdiv (ph_op l_sub op_sub (ph_op l_add op_addA (ph_var (pv 0)) (ph_var (pv 1))) (ph_c pe_int)) (ph_var (pv 1)))), ?_⟩
  rintro ds A Q ⟨z, s, rfl, hz, hs, hs2, q⟩
  walk_at "w"
  refine ⟨⟨by omega, by omega⟩, ?_⟩
  have e : ((z : Int) + (s : Int) - 1) / (s : Int) = (((z + s - 1) / s : Nat) : Int) := by
    rw [show (z : Int) + (s : Int) - 1 = ((z + s - 1 : Nat) : Int) by omega]
    rfl
  rw [e]
  exact q
theorem ok_fetched {fd : FuncData} (F : Fun K "fetched" "Road.fetched" sFetched fA fd) (T : RdB K C fI) (B : Bi mg) (FL : Fun K "_last_speed" "Road._last_speed" sRLast fL fdL) (bL : L2.Binds K fdL ["self"] []) (mL : Meth K C "_last_speed" fL)
    (FB : Fun K "_beats_for" "_beats_for" sBeatsFor fB fdB) (mB : mg "_beats_for" = some (.ref fB)) (bB : L2.Binds K fdB ["bits", "speed"] []) :
    FnOk P w K mg base CX0 2 fA fd ["self", "begin", "size", "wait"] (spOf K 4 (spFetched C)) := by
  have GL : FnOk P w K mg base CX0 1 fL fdL ["self"] (spOf K 1 (spRLast C)) := ok_rlast FL T
  have GB : FnOk P w K mg base CX0 1 fB fdB ["bits", "speed"] (spOf K 2 spBeatsFor) := ok_beatsfor FB
  refine okH F scFetched fun cdv Ao outer s H E hr => have hu := hr.units; have hr1 : Room 1 _ := hr; ⟨_, pssh_cons (psh_set (i := 4) scFetched.nd rfl (Or.inl rfl) (ph_op l_add op_addA (ph_var (pv 1)) (ph_var (pv 3))))
    (pssh_cons (psh_set (i := 5) scFetched.nd rfl (Or.inl rfl) (ph_var (pv 2)))
    (pssh_cons (psh_set (i := 6) scFetched.nd rfl (Or.inl rfl) (ph_c pe_int))
    (pssh_cons (psh_for (lg_tup (lg_cons lg_name (lg_cons lg_name lg_nil)) (len_cons goes_name (len_cons goes_name len_nil))) PassesOwn.never rfl (pih_seq (ph_fld T.cl T.np (ph_var (pv 0)) rfl)) (pg_tup rfl (pgs_cons (pg_name (i := 7) scFetched.nd rfl (Or.inl rfl)) (pgs_cons (pg_name (i := 8) scFetched.nd rfl (Or.inl rfl)) (pgs_nil)))) (pssh_cons (psh_set (i := 9) scFetched.nd rfl (Or.inl rfl) (ph_op l_add op_addA (ph_var (pv 6)) (ph_var (pv 7))))
      (pssh_cons (psh_set (i := 10) scFetched.nd rfl (Or.inl rfl) (ph_op l_mul op_mulA (ph_var (pv 8)) (ph_callB l_max (call_maxA rfl) (by rfl) B.max (by decide +kernel) (pah_cons (ph_c pe_int) (pah_cons (ph_op l_sub op_sub (ph_var (pv 9)) (ph_callB l_max (call_maxA rfl) (by rfl) B.max (by decide +kernel) (pah_cons (ph_var (pv 6)) (pah_cons (ph_var (pv 4)) pah_nil)))) pah_nil)))))
      (pssh_cons (psh_if (pth_cmp l_ge op_ge (ph_var (pv 10)) (ph_var (pv 5)) (nomark _)) (pssh_one (psh_ret (ph_op l_add op_addA (ph_callB l_max (call_maxA rfl) (by rfl) B.max (by decide +kernel) (pah_cons (ph_var (pv 6)) (pah_cons (ph_var (pv 4)) pah_nil))) (ph_callO GB hr1 (by rfl) mB FB.kp bB (pah_cons (ph_var (pv 5)) (pah_cons (ph_var (pv 8)) pah_nil)))))) (pssh_nil))
      (pssh_cons (psh_aug (i := 5) scFetched.nd rfl (Or.inl rfl) (ph_var (pv 10)) ip_sub)
      (pssh_one (psh_set (i := 6) scFetched.nd rfl (Or.inl rfl) (ph_var (pv 9)))))))))
    (pssh_one (psh_ret (ph_op l_add op_addA (ph_callB l_max (call_maxA rfl) (by rfl) B.max (by decide +kernel) (pah_cons (ph_var (pv 6)) (pah_cons (ph_var (pv 4)) pah_nil))) (ph_callO GB hr1 (by rfl) mB FB.kp bB (pah_cons (ph_var (pv 5)) (pah_cons (ph_meth0 (ph_var (pv 0)) T.cl mL GL hr1 bL) pah_nil))))))))), ?_⟩
  rintro ds A Q ⟨x, ps, l, b, s, w, rfl, hx, hl, l1, ok, s1, q⟩
  walk_at "w"
  refine ⟨_, _, hx, rfl, ?_⟩
  rw [show (b : Int) + (w : Int) = ((b + w : Nat) : Int) by push_cast; rfl]
  have l2 : l ≤ 100000 := by
    obtain ⟨r, p, rfl, rfl⟩ := hl
    exact ok p (List.mem_append_right _ List.mem_cons_self)
  generalize b + w = f at q ⊢
  walk_at "w"
  refine ⟨fun i σ A' => ∃ (z y : Nat) (zi yi : Int) (v7 v8 v9 v10 : Option D), σ = [some (.ptr x), some (.v (.int b)), some (.v (.int s)), some (.v (.int w)), some (.v (.int (f : Nat))), some (.v (.int zi)), some (.v (.int yi)), v7, v8, v9, v10] ∧ zi = z ∧ yi = y ∧ A' = A ∧ 1 ≤ z ∧ ((spd (ps.take i)).drop f).sum + z = s ∧ y = (spd (ps.take i)).length,
    ⟨s, 0, _, _, none, none, none, none, rfl, rfl, rfl, rfl, s1, by simp [spd], by simp [spd]⟩, fun _ _ _ _ _ => trivial, ?_, ?_⟩
  · rintro i d σ A1 hi hd ⟨z, y, _, _, v7, v8, v9, v10, rfl, rfl, rfl, rfl, z1, hz, hy⟩
    obtain ⟨p, hp, rfl⟩ := dP_at hd
    have hp1 := ok p (List.mem_of_getElem? hp)
    have es := spd_succ hp
    have ed := drop_sum_rep (spd (ps.take i)) p.1 p.2 f
    walk_at "w"
    refine ⟨.inl ⟨by omega, by omega⟩, ?_⟩
    have e1 : (p.2 : Int) * max (0 : Int) ((y : Int) + (p.1 : Int) - max (y : Int) (f : Int)) = ((p.2 * (y + p.1 - max y f) : Nat) : Int) := by
      rw [show max (0 : Int) ((y : Int) + (p.1 : Int) - max (y : Int) (f : Int)) = ((y + p.1 - max y f : Nat) : Int) by omega]
      push_cast
      rfl
    rw [e1]
    walk_at "w"
    refine .d (fun c => ?_) (fun c => ?_)
    · have c' : z ≤ p.2 * (y + p.1 - max y f) := by omega
      have p1 : 1 ≤ p.2 := by
        rcases Nat.eq_zero_or_pos p.2 with e | e
        · rw [e, Nat.zero_mul] at c'; omega
        · exact e
      walk_at "w"
      refine ⟨z, p.2, rfl, z1, p1, hp1, ?_⟩
      walk_at "w"
      obtain ⟨c1, c2, c3⟩ := ceil_ok z1 p1
      have hm : (z + p.2 - 1) / p.2 ≤ y + p.1 - max y f := by
        generalize (z + p.2 - 1) / p.2 = m at c1 c3
        rcases Nat.lt_or_ge (y + p.1 - max y f) m with e | e
        · have := Nat.mul_le_mul_left p.2 (show y + p.1 - max y f ≤ m - 1 by omega)
          omega
        · exact e
      obtain ⟨r, er⟩ := spd_split hp
      have he := isEnd_of (L := spd ps) (l := l) (f := f) (a := max y f) (S := ((spd (ps.take i)).drop f).sum) (h := y + p.1) z1 p1 (by omega) (by omega) fun e h1 h2 => by
        rw [er, sumT_mid (by omega) (by omega), hy]
      rw [hz] at he
      rw [show max (y : Int) (f : Int) + (((z + p.2 - 1) / p.2 : Nat) : Int) = ((max y f + (z + p.2 - 1) / p.2 : Nat) : Int) by push_cast; omega]
      exact q _ he
    · walk_at "w"
      refine ⟨z - p.2 * (y + p.1 - max y f), y + p.1, _, _, _, _, _, _, rfl, by dsimp only; omega, by push_cast; rfl, rfl, by omega, ?_, ?_⟩
      · rw [es, ed, ← hy]
        omega
      · rw [es, List.length_append, List.length_replicate, hy]
  · rintro σ A1 ⟨z, y, _, _, v7, v8, v9, v10, rfl, rfl, rfl, rfl, z1, hz, hy⟩
    have e1 : ps.take (srcT (dP ps)).n = ps := by
      show ps.take (dP ps).length = ps
      rw [dP_len, List.take_length]
    rw [e1] at hz hy
    walk_at "w"
    refine ⟨_, hx, rfl, ?_⟩
    walk_at "w"
    refine ⟨x, ps, l, rfl, hx, hl, ?_⟩
    walk_at "w"
    refine ⟨z, l, rfl, z1, l1, l2, ?_⟩
    walk_at "w"
    have he := isEnd_of (L := spd ps) (l := l) (f := f) (a := max y f) (S := ((spd ps).drop f).sum) (h := max y f + (z + l - 1) / l) z1 l1 (by omega) (Nat.le_refl _) fun e h1 h2 => by
      rw [sumT_tail (by omega), hy]
    rw [hz] at he
    rw [show max (y : Int) (f : Int) + (((z + l - 1) / l : Nat) : Int) = ((max y f + (z + l - 1) / l : Nat) : Int) by push_cast; omega]
    exact q _ he
end
end Rp

/-! Where another speed begins; Road.__eq__. -/
namespace Rp
open PySem PySem.Spec PyProof.Rows L2
local macro_rules | `(tactic| walk_at "w") => `(tactic| (conv => whnf))
/-! ### what _changes tells -/
def chgS (acc : List (Nat × Nat)) (a s : Nat) : List (Nat × Nat) := match acc.getLast? with
  | some p => if p.2 = s then acc else acc ++ [(a, s)]
  | none => acc ++ [(a, s)]
def chgL : List (Nat × Nat) → Nat → List Nat → List (Nat × Nat)
  | acc, _, [] => acc
  | acc, a, s :: L => chgL (chgS acc a s) (a + 1) L
theorem chgS_last (acc : List (Nat × Nat)) (a s : Nat) : ∃ p, (chgS acc a s).getLast? = some p ∧ p.2 = s := by
  unfold chgS
  split
  · rename_i p h
    split
    · rename_i e; exact ⟨p, h, e⟩
    · exact ⟨(a, s), by simp, rfl⟩
  · exact ⟨(a, s), by simp, rfl⟩
theorem chgS_same {acc : List (Nat × Nat)} {a s : Nat} (h : ∃ p, acc.getLast? = some p ∧ p.2 = s) : chgS acc a s = acc := by
  obtain ⟨p, h, e⟩ := h
  unfold chgS
  rw [h]
  exact if_pos e
theorem chgL_app (acc : List (Nat × Nat)) (a : Nat) (L M : List Nat) : chgL acc a (L ++ M) = chgL (chgL acc a L) (a + L.length) M := by
  induction L generalizing acc a with
  | nil => rfl
  | cons s L ih =>
    show chgL (chgS acc a s) (a + 1) (L ++ M) = chgL (chgL (chgS acc a s) (a + 1) L) _ M
    rw [ih, List.length_cons]
    congr 1
    omega
theorem chgL_rep {acc : List (Nat × Nat)} {a s : Nat} (h : ∃ p, acc.getLast? = some p ∧ p.2 = s) (n : Nat) : chgL acc a (List.replicate n s) = acc := by
  induction n generalizing a with
  | zero => rfl
  | succ n ih =>
    rw [List.replicate_succ]
    show chgL (chgS acc a s) (a + 1) _ = acc
    rw [chgS_same h]
    exact ih
/-- a piece is as its first beat -/
theorem chgL_piece {n : Nat} (hn : 1 ≤ n) (acc : List (Nat × Nat)) (a s : Nat) : chgL acc a (List.replicate n s) = chgS acc a s := by
  obtain ⟨m, rfl⟩ : ∃ m, n = m + 1 := ⟨n - 1, by omega⟩
  rw [List.replicate_succ]
  show chgL (chgS acc a s) (a + 1) _ = _
  exact chgL_rep (chgS_last acc a s) m
/-- of pieces -/
def chg (ps : List (Nat × Nat)) : List (Nat × Nat) := chgL [] 0 (spd ps)
theorem chg_succ {ps : List (Nat × Nat)} {i : Nat} {p : Nat × Nat} (h : ps[i]? = some p) (hp : 1 ≤ p.1) : chg (ps.take (i + 1)) = chgS (chg (ps.take i)) (spd (ps.take i)).length p.2 := by
  unfold chg
  rw [spd_succ h, chgL_app, chgL_piece hp, Nat.zero_add]
theorem chgS_len (acc : List (Nat × Nat)) (a s : Nat) : (chgS acc a s).length ≤ acc.length + 1 := by
  unfold chgS
  split
  · split
    · omega
    · simp
  · simp
theorem chg_len (ps : List (Nat × Nat)) (h : ∀ p ∈ ps, 1 ≤ p.1) (i : Nat) : (chg (ps.take i)).length ≤ i := by
  induction i with
  | zero => simp [chg, spd, chgL]
  | succ i ih =>
    by_cases hi : i < ps.length
    · rw [chg_succ (List.getElem?_eq_getElem hi) (h _ (List.getElem_mem hi))]
      have := chgS_len (chg (ps.take i)) (spd (ps.take i)).length (ps[i]).2
      omega
    · rw [List.take_of_length_le (by omega)] at ih ⊢
      omega
theorem chgL_pad {r : List Nat} {l : Nat} (n : Nat) : chgL [] 0 (r ++ [l] ++ List.replicate n l) = chgL [] 0 (r ++ [l]) := by
  rw [chgL_app [] 0 (r ++ [l])]
  refine chgL_rep ?_ n
  rw [chgL_app]
  exact chgS_last _ _ _
theorem Br.f' {b : Bool} {p q : Prop} (e : b = false) (h : q) : Br b p q := by subst e; exact .f h
theorem Br.t' {b : Bool} {p q : Prop} (e : b = true) (h : p) : Br b p q := by subst e; exact .t h
theorem pad_ext {L M : List Nat} {l m : Nat} (e : ∀ t, L.getD t l = M.getD t m) : L ++ List.replicate (M.length - L.length) l = M ++ List.replicate (L.length - M.length) m := by
  refine List.ext_getElem? fun i => ?_
  have q := e i
  rw [List.getD_eq_getElem?_getD, List.getD_eq_getElem?_getD] at q
  by_cases h1 : i < L.length
  · rw [List.getElem?_append_left h1]
    rw [List.getElem?_eq_getElem h1] at q ⊢
    by_cases h2 : i < M.length
    · rw [List.getElem?_append_left h2]
      rw [List.getElem?_eq_getElem h2] at q ⊢
      exact congrArg some q
    · rw [List.getElem?_append_right (by omega)]
      rw [List.getElem?_eq_none (show M.length ≤ i by omega)] at q
      rw [List.getElem?_replicate, if_pos (by omega)]
      exact congrArg some q
  · rw [List.getElem?_append_right (by omega)]
    rw [List.getElem?_eq_none (show L.length ≤ i by omega)] at q
    by_cases h2 : i < M.length
    · rw [List.getElem?_append_left h2]
      rw [List.getElem?_eq_getElem h2] at q ⊢
      rw [List.getElem?_replicate, if_pos (by omega)]
      exact congrArg some q
    · rw [List.getElem?_append_right (by omega), List.getElem?_replicate, List.getElem?_replicate, if_neg (by omega), if_neg (by omega)]
/-- the same speeds, the same changes -/
theorem chg_of {ps qs : List (Nat × Nat)} {l m : Nat} {r r' : List Nat} (h : spd ps = r ++ [l]) (h' : spd qs = r' ++ [m]) (e : ∀ t, (spd ps).getD t l = (spd qs).getD t m) : chg ps = chg qs := by
  have q := pad_ext e
  unfold chg
  rw [h, h'] at q ⊢
  rw [← chgL_pad (r := r) (l := l) ((r' ++ [m]).length - (r ++ [l]).length), ← chgL_pad (r := r') (l := m) ((r ++ [l]).length - (r' ++ [m]).length), q]
theorem kit_self {K : PySem.W.Frag} {C : Addr} : PySem.W.kitOne K (.ref C) (.ref C) = some true := by
  unfold PySem.W.kitOne
  rw [if_pos (beq_self_eq_true _)]
abbrev sChanges : Stmt := topS 3
theorem scChanges : FnScope ["pieces", "changes", "at", "beats", "speed"] ["pieces"] (defScope sChanges) :=
  ⟨rfl, rfl, rfl, by decide +kernel, rfl, by decide +kernel, by decide +kernel⟩
abbrev sREq : Stmt := inClass (topS 1) 2
theorem scREq : FnScope ["self", "other"] ["self", "other"] (defScope sREq) :=
  ⟨rfl, rfl, rfl, by decide +kernel, rfl, by decide +kernel, by decide +kernel⟩
def spChanges : Sph := fun ds A Q => ∃ ps, ds = [.tup (dP ps)] ∧ ps.length ≤ 10000 ∧ (∀ p ∈ ps, 1 ≤ p.1) ∧ ∀ j A', A'[j]? = some (.lst (dP (chg ps))) → A[j]? = none → Kp [] A A' → Q (.ptr j) A'
/-- == of a Road with a Road, or with a thing of another kind -/
def spREq (K : PySem.W.Frag) (C : Addr) : Sph := fun ds A Q => ∃ x ps d, ds = [.ptr x, d] ∧ RoadAt C A x ps ∧ ((∃ y qs, d = .ptr y ∧ RoadAt C A y qs ∧ ps.length ≤ 10000 ∧ (∀ p ∈ ps, 1 ≤ p.1) ∧ qs.length ≤ 10000 ∧ (∀ p ∈ qs, 1 ≤ p.1) ∧ ∀ A', Kp [] A A' → Q (.v (.bl (decide (chg ps = chg qs)))) A') ∨
  ∃ t, TyD K A d t ∧ PySem.W.kitOne K t (.ref C) = some false ∧ Q (.v (.bl false)) A)
section
variable {P : Program} {w : World} {K : PySem.W.Frag} {mg : Str → Option Value} {base : Heap} {C fI fE fH : Addr} {fdH : FuncData}
theorem RoadAt.ty {A : OH} {x : Nat} {ps : List (Nat × Nat)} (T : RdB K C fI) (h : RoadAt C A x ps) : TyD K A (.ptr x) (.ref C) := .ins h T.cl T.ca T.cn T.ct T.cm
theorem ok_changes {f : Addr} {fd : FuncData} (F : Fun K "_changes" "_changes" sChanges f fd) (B : Bi mg) : FnOk P w K mg base CX0 1 f fd ["pieces"] (spOf K 1 spChanges) := by
  refine okH F scChanges fun cdv Ao outer s H E hr => have hu := hr.units; ⟨_, pssh_cons (psh_set (i := 1) scChanges.nd rfl (Or.inl rfl) (ph_lst (pah_nil)))
    (pssh_cons (psh_set (i := 2) scChanges.nd rfl (Or.inl rfl) (ph_c pe_int))
    (pssh_cons (psh_for (lg_tup (lg_cons lg_name (lg_cons lg_name lg_nil)) (len_cons goes_name (len_cons goes_name len_nil))) PassesOwn.never rfl (pih_seq (ph_var (pv 0))) (pg_tup rfl (pgs_cons (pg_name (i := 3) scChanges.nd rfl (Or.inl rfl)) (pgs_cons (pg_name (i := 4) scChanges.nd rfl (Or.inl rfl)) (pgs_nil)))) (pssh_cons (psh_if (PW.pt (pwh_or (pth_not (pth_val (ph_var (pv 1)))) (pwh_or1 (pth_cmp l_ne (op_neA hu) (ph_ix l_ix ix_seq (ph_ix l_ix ix_seq (ph_var (pv 1)) (ph_neg (ph_c pe_int)) (fun _ _ => rfl)) (ph_c pe_int) (fun _ _ => rfl)) (ph_var (pv 4)) (nomark _))))) (pssh_one (psh_expr (ph_app (ph_var (pv 1)) (pah_cons (ph_tup (pah_cons (ph_var (pv 2)) (pah_cons (ph_var (pv 4)) pah_nil))) pah_nil)))) (pssh_nil))
      (pssh_one (psh_aug (i := 2) scChanges.nd rfl (Or.inl rfl) (ph_var (pv 3)) ip_add))))
    (pssh_one (psh_ret (ph_var (pv 1)))))), ?_⟩
  rintro ds A Q ⟨ps, rfl, hps, ok, q⟩
  walk_at "w"
  intro j A1 n1
  walk_at "w"
  refine ⟨fun i σ A' => ∃ (j : Nat) (y : Int) (v3 v4 : Option D), σ = [some (.tup (dP ps)), some (.ptr j), some (.v (.int y)), v3, v4] ∧ Loc [] A [(j, .lst (dP (chg (ps.take i))))] A' ∧ y = (spd (ps.take i)).length, ⟨j, 0, none, none, rfl, Loc.nil.new n1 fun _ z => (nomatch z), rfl⟩, fun _ _ _ _ _ => trivial, ?_, ?_⟩
  · rintro i d σ A1 hi hd ⟨j, y, v3, v4, rfl, L1, hy⟩
    obtain ⟨p, hp, rfl⟩ := dP_at hd
    have hp1 := ok p (List.mem_of_getElem? hp)
    have es := chg_succ hp hp1
    have el : (spd (ps.take (i + 1))).length = (spd (ps.take i)).length + p.1 := by rw [spd_succ hp, List.length_append, List.length_replicate]
    have hlen := chg_len ps ok i
    have hi' : i < ps.length := (List.getElem?_eq_some_iff.mp hp).1
    -- a change is put behind
    have fin : ∀ (D2 De : Eh), (∀ σ A', (∃ (j : Nat) (y : Int) (v3 v4 : Option D), σ = [some (.tup (dP ps)), some (.ptr j), some (.v (.int y)), v3, v4] ∧ Loc [] A [(j, .lst (dP (chg (ps.take (i + 1)))))] A' ∧ y = (spd (ps.take (i + 1))).length) → De.nx σ A') →
        D2.nx = hAug 2 (hVar 3) (fun i j => i + j) De → chg (ps.take (i + 1)) = chg (ps.take i) ++ [((spd (ps.take i)).length, p.2)] →
        hDrop (hApp (hVar 1) (hCons (hTup (hCons (hVar 2) (hCons (hVar 4) hNil))) hNil)) D2 [some (.tup (dP ps)), some (.ptr j), some (.v (.int y)), some (.v (.int p.1)), some (.v (.int p.2))] A1 := by
      intro D2 De hDe h2 e
      walk_at "w"
      refine ⟨⟨_, L1.get0⟩, ?_⟩
      walk_at "w"
      refine ⟨_, L1.get0, by rw [dP_len]; omega, fun A2 p2 => ?_⟩
      rw [h2]
      walk_at "w"
      refine hDe _ _ ⟨j, _, _, _, rfl, ?_, by rw [el]; push_cast; omega⟩
      rw [e, dP_app]
      have := L1.put0 p2
      rw [hy] at this
      exact this
    have e0 : chgS (chg (ps.take i)) (spd (ps.take i)).length p.2 = match (chg (ps.take i)).getLast? with | some z => if z.2 = p.2 then chg (ps.take i) else chg (ps.take i) ++ [((spd (ps.take i)).length, p.2)] | none => chg (ps.take i) ++ [((spd (ps.take i)).length, p.2)] := rfl
    rw [← es] at e0
    generalize hacc : chg (ps.take i) = acc at L1 hlen e0 fin
    rcases List.eq_nil_or_concat acc with rfl | ⟨r, z, rfl⟩
    · walk_at "w"
      refine .inl ⟨_, L1.get0, ?_⟩
      refine .t ?_
      refine .t ?_
      refine fin _ ?_ ?_ ?_ e0
      rotate_left 2
      exact rfl
      exact fun _ _ h => h
    · rw [List.concat_eq_append] at *
      rw [List.getLast?_concat] at e0
      replace e0 : chg (ps.take (i + 1)) = if z.2 = p.2 then r ++ [z] else r ++ [z] ++ [((spd (ps.take i)).length, p.2)] := e0
      walk_at "w"
      refine .inl ⟨_, L1.get0, ?_⟩
      refine Br.f' (by rw [dP_app]; simp) ?_
      walk_at "w"
      refine ⟨_, L1.get0, dPc z, by rw [dP_app]; exact atI_last', ?_⟩
      walk_at "w"
      refine ⟨_, rfl, ?_⟩
      walk_at "w"
      refine .n (fun c => ?_) (fun c => ?_)
      · have c' : ¬ z.2 = p.2 := fun e => c (by rw [e])
        rw [if_neg c'] at e0
        refine fin _ ?_ ?_ ?_ e0
        rotate_left 2
        exact rfl
        exact fun _ _ h => h
      · have c' : z.2 = p.2 := by omega
        rw [if_pos c'] at e0
        walk_at "w"
        refine ⟨j, _, _, _, rfl, ?_, by rw [el]; push_cast; omega⟩
        rw [e0]
        exact L1
  · rintro σ A1 ⟨j, y, v3, v4, rfl, L1, hy⟩
    have e : ps.take (srcT (dP ps)).n = ps := by
      show ps.take (dP ps).length = ps
      rw [dP_len, List.take_length]
    rw [e] at L1
    walk_at "w"
    exact q j A1 L1.get0 (L1.ne _ List.mem_cons_self).2 L1.kp
theorem ok_req {fd : FuncData} (F : Fun K "__eq__" "Road.__eq__" sREq fE fd) (T : RdB K C fI) (B : Bi mg) (mC : mg "Road" = some (.ref C)) (FH : Fun K "_changes" "_changes" sChanges fH fdH) (mH : mg "_changes" = some (.ref fH)) (bH : L2.Binds K fdH ["pieces"] []) :
    FnOk P w K mg base CX0 2 fE fd ["self", "other"] (spOf K 2 (spREq K C)) := by
  have GH : FnOk P w K mg base CX0 1 fH fdH ["pieces"] (spOf K 1 spChanges) := ok_changes FH B
  refine okH F scREq fun cdv Ao outer s H E hr => have hu := hr.units; have hr1 : Room 1 _ := hr; ⟨_, pssh_one (psh_ret (ph_and (ph_callB l_isi call_isi (by rfl) B.isinstance (by decide +kernel) (pah_cons (ph_var (pv 1)) (pah_cons (ph_c (pe_glob (v := .ref C) (by rfl) mC rfl)) pah_nil))) (ph_one (ph_cmp l_eq (op_eqA hu) (ph_callO GH hr1 (by rfl) mH FH.kp bH (pah_cons (ph_fld T.cl T.np (ph_var (pv 0)) rfl) pah_nil)) (ph_callO GH hr1 (by rfl) mH FH.kp bH (pah_cons (ph_fld T.cl T.np (ph_var (pv 1)) rfl) pah_nil)) (nomark _))))), ?_⟩
  rintro ds A Q ⟨x, ps, d, rfl, hx, (⟨y, qs, rfl, hy, l1, o1, l2, o2, q⟩ | ⟨t, ty, ht, q⟩)⟩
  · walk_at "w"
    refine ⟨_, _, true, .own C, hy.ty T, kit_self, ?_⟩
    walk_at "w"
    refine .t ?_
    walk_at "w"
    refine ⟨_, _, hx, rfl, ?_⟩
    walk_at "w"
    refine ⟨ps, rfl, l1, o1, fun j1 A1 h1 nj1 kp1 => ?_⟩
    have hy1 : RoadAt C A1 y qs := kp1 _ _ (fun z => nomatch z) hy
    walk_at "w"
    refine ⟨_, _, hy1, rfl, ?_⟩
    walk_at "w"
    refine ⟨qs, rfl, l2, o2, fun j2 A2 h2 nj2 kp2 => ?_⟩
    walk_at "w"
    refine ⟨_, encPc.lst (by decide) (kp2 _ _ (fun z => nomatch z) h1) h2, ?_⟩
    exact q A2 (kp1.trans kp2)
  · walk_at "w"
    refine ⟨_, _, false, .own C, ty, ht, ?_⟩
    walk_at "w"
    refine .f ?_
    exact q
end
end Rp

/-! Pieces as good as a Road's; speeds so many beats later. -/
namespace Rp
open PySem PySem.Spec PyProof.Rows L2
local macro_rules | `(tactic| walk_at "w") => `(tactic| (conv => whnf))
/-! ### speeds so many beats later -/
theorem sumT_succ {L : List Nat} {l f e : Nat} (h : f ≤ e) : sumT L l f (e + 1) = sumT L l f e + L.getD e l := by
  rw [← sumT_add L l f e (e + 1) h (by omega), sumT_one]
theorem sumT_zero {L : List Nat} {l f e : Nat} (h : e ≤ f) : sumT L l f e = 0 := by
  unfold sumT sumC
  rw [show e - f = 0 by omega, show e - max L.length f = 0 by omega]
  simp
/-- M has at each beat what L has b beats later -/
def Later (L M : List Nat) (l b : Nat) : Prop := ∀ t, M.getD t l = L.getD (b + t) l
theorem Later.sum {L M : List Nat} {l b : Nat} (h : Later L M l b) (f e : Nat) : sumT M l f e = sumT L l (b + f) (b + e) := by
  induction e with
  | zero => rw [sumT_zero (Nat.zero_le _), sumT_zero (by omega)]
  | succ e ih =>
    by_cases c : f ≤ e
    · rw [sumT_succ c, show b + (e + 1) = (b + e) + 1 by omega, sumT_succ (by omega), ih, h e]
    · rw [sumT_zero (by omega), sumT_zero (by omega)]
theorem Later.isEnd {L M : List Nat} {l b f s e : Nat} (h : Later L M l b) (he : IsEnd M l f s e) : IsEnd L l (b + f) s (b + e) := by
  obtain ⟨h1, h2, h3⟩ := he
  rw [h.sum] at h2 h3
  refine ⟨by omega, h2, ?_⟩
  rw [show b + e - 1 = b + (e - 1) by omega]
  exact h3
theorem Later.trans {L M N : List Nat} {l b c : Nat} (h : Later L M l b) (h' : Later M N l c) : Later L N l (b + c) := fun t => by
  rw [h' t, h (c + t), Nat.add_assoc]
/-- pieces as good as those of a Road -/
structure Good (ps : List (Nat × Nat)) (l : Nat) : Prop where
  most : ps.length ≤ 10000
  ok : ∀ p ∈ ps, 1 ≤ p.1 ∧ p.1 ≤ 100000 ∧ p.2 ≤ 1000
  ends : Ends1 ps l
theorem Good.spd_end {ps : List (Nat × Nat)} {l : Nat} (h : Good ps l) : ∃ r, spd ps = r ++ [l] := spd_ends h.ends fun p hp => (h.ok p hp).1
theorem Good.l1 {ps : List (Nat × Nat)} {l : Nat} (h : Good ps l) : l ≤ 1000 := by
  obtain ⟨r, p, rfl, rfl⟩ := h.ends
  exact (h.ok p (List.mem_append_right _ List.mem_cons_self)).2.2
theorem cutD_dN (L : List Nat) (b : Nat) : cutD (dN L) (some (b : Int)) none = dN (L.drop b) := by
  by_cases h : b ≤ L.length
  · rw [cutD_from _ _ (by rw [dN_len]; exact h)]
    unfold dN
    rw [List.map_drop]
  · unfold cutD
    rw [HT.sIx_nat, Nat.min_eq_right (by rw [dN_len]; omega), List.drop_length, List.drop_of_length_le (show L.length ≤ b by omega)]
    simp
end Rp

/-! Road.__len__, known. -/
namespace Rp
open PySem PySem.Spec PyProof.Rows L2
local macro_rules | `(tactic| walk_at "w") => `(tactic| (conv => whnf))
abbrev sRLen : Stmt := inClass (topS 1) 1
theorem scRLen : FnScope ["self", "beats", "_"] ["self"] (defScope sRLen) :=
  ⟨rfl, rfl, rfl, by decide +kernel, rfl, by decide +kernel, by decide +kernel⟩
abbrev sKnown : Stmt := topS 2
theorem scKnown : FnScope ["speeds", "pieces", "speed"] ["speeds"] (defScope sKnown) :=
  ⟨rfl, rfl, rfl, by decide +kernel, rfl, by decide +kernel, by decide +kernel⟩
theorem sum_beats : ∀ ps : List (Nat × Nat), (ps.map (·.1)).sum = (spd ps).length
  | [] => rfl
  | p :: ps => by
    rw [List.map_cons, List.sum_cons, sum_beats ps]
    show _ = (List.replicate p.1 p.2 ++ spd ps).length
    rw [List.length_append, List.length_replicate]
def spRLen (C : Addr) : Sph := fun ds A Q => ∃ x ps l, ds = [.ptr x] ∧ RoadAt C A x ps ∧ Good ps l ∧ (spd ps).length ≤ 1000000 ∧ ∀ A', Kp [] A A' → Q (.v (.int ((spd ps).length : Nat))) A'
/-- a Road of these speeds -/
def spKnown (C : Addr) : Sph := fun ds A Q => ∃ L r l, ds = [.tup (dN L)] ∧ L = r ++ [l] ∧ L.length ≤ 10000 ∧ (∀ s ∈ L, s ≤ 1000) ∧ ∀ x ps A', RoadAt C A' x ps → A[x]? = none → Good ps l → spd ps = L → Kp [] A A' → Q (.ptr x) A'
section
variable {P : Program} {w : World} {K : PySem.W.Frag} {mg : Str → Option Value} {base : Heap} {C fI fA : Addr} {fdI : FuncData}
theorem ok_rlen {fd : FuncData} (F : Fun K "__len__" "Road.__len__" sRLen fA fd) (T : RdB K C fI) (B : Bi mg) : FnOk P w K mg base CX0 1 fA fd ["self"] (spOf K 1 (spRLen C)) := by
  refine okH F scRLen fun cdv Ao outer s H E hr => have hu := hr.units; ⟨_, pssh_one (psh_ret (ph_lenRng (by rfl) B.len (by rfl) B.range (pah_cons (ph_callB l_sum (call_sumA rfl) (by rfl) B.sum (by decide +kernel) (pah_cons (ph_lc (own := [("beats", 1), ("_", 2)]) (lg_tup (lg_cons lg_name (lg_cons lg_name lg_nil)) (len_cons goes_name (len_cons goes_name len_nil))) (keeps_tup (keeps_cons (keeps_name (by decide)) (keeps_cons (keeps_name (by decide)) keeps_nil mono_name) mono_name)) rfl scRLen.nd (pih_seq (ph_fld T.cl T.np (ph_var (pv 0)) rfl)) (blkOk_by (own := [("beats", 1), ("_", 2)]) (N := ["self", "beats", "_"]) (sc := defScope sRLen) (by decide +kernel)) (fun _ _ _ _ _ => pg_tup rfl (pgs_cons (pg_name (i := 1) scRLen.nd rfl (Or.inl rfl)) (pgs_cons (pg_name (i := 2) scRLen.nd rfl (Or.inl rfl)) (pgs_nil)))) (fun _ _ _ _ _ => ptsh_nil) (fun _ _ _ _ _ => ph_var (pv 1))) pah_nil)) pah_nil))), ?_⟩
  rintro ds A Q ⟨x, ps, l, rfl, hx, gp, hlen, q⟩
  walk_at "w"
  refine ⟨_, _, hx, rfl, ?_⟩
  walk_at "w"
  refine ⟨fun n acc A' => acc = dN ((ps.take n).map (·.1)) ∧ A' = A, by show (dP ps).length ≤ 100000; rw [dP_len]; have := gp.most; omega, ⟨rfl, rfl⟩, fun _ _ _ _ _ => trivial, ?_, ?_⟩
  · rintro n d acc A' hn hd ⟨rfl, rfl⟩
    obtain ⟨p, hp, rfl⟩ := dP_at hd
    walk_at "w"
    refine .t ?_
    refine ⟨?_, rfl⟩
    rw [List.take_add_one, hp, Option.toList_some, List.map_append, dN_app]
    rfl
  rintro acc A' ⟨rfl, rfl⟩
  intro j1 A1 n1
  rw [show ps.take (srcT (dP ps)).n = ps by show ps.take (dP ps).length = ps; rw [dP_len, List.take_length]] at n1
  walk_at "w"
  refine ⟨(ps.map (·.1)).map fun n : Nat => (n : Int), by rw [n1.get, dN_dI], ?_⟩
  rw [sum_cast, sum_beats]
  walk_at "w"
  refine ⟨⟨by omega, by omega⟩, ?_⟩
  exact q A1 (Kp.of_new n1)
theorem ok_known {f : Addr} {fd : FuncData} (F : Fun K "known" "known" sKnown f fd) (T : RdB K C fI) (B : Bi mg) (mC : mg "Road" = some (.ref C)) (FI : Fun K "__init__" "Road.__init__" sRInit fI fdI) (bI : L2.Binds K fdI ["self", "pieces"] []) :
    FnOk P w K mg base CX0 3 f fd ["speeds"] (spOf K 1 (spKnown C)) := by
  have GI : FnOk P w K mg base CX0 1 fI fdI ["self", "pieces"] (spOf K 2 (spRInit C)) := ok_rinit FI T
  refine okH F scKnown fun cdv Ao outer s H E hr => have hu := hr.units; have hr2 : Room 2 _ := hr; ⟨_, pssh_cons (psh_set (i := 1) scKnown.nd rfl (Or.inl rfl) (ph_lst (pah_nil)))
    (pssh_cons (psh_for lg_name PassesOwn.never rfl (pih_seq (ph_var (pv 0))) (pg_name (i := 2) scKnown.nd rfl (Or.inl rfl)) (pssh_one (psh_if (PW.pt (pwh_and (pth_val (ph_var (pv 1))) (pwh_and1 (pth_cmp l_eq (op_eqA hu) (ph_ix l_ix ix_seq (ph_ix l_ix ix_seq (ph_var (pv 1)) (ph_neg (ph_c pe_int)) (fun _ _ => rfl)) (ph_c pe_int) (fun _ _ => rfl)) (ph_var (pv 2)) (nomark _))))) (pssh_one (psh_asg lg_sub (ph_tup (pah_cons (ph_op l_add op_addA (ph_ix l_ix ix_seq (ph_ix l_ix ix_seq (ph_var (pv 1)) (ph_neg (ph_c pe_int)) (fun _ _ => rfl)) (ph_c pe_int) (fun _ _ => rfl)) (ph_c pe_int)) (pah_cons (ph_var (pv 2)) pah_nil))) (pgh_sub (ph_var (pv 1)) (ph_neg (ph_c pe_int))))) (pssh_one (psh_expr (ph_app (ph_var (pv 1)) (pah_cons (ph_tup (pah_cons (ph_c pe_int) (pah_cons (ph_var (pv 2)) pah_nil))) pah_nil)))))))
    (pssh_one (psh_ret (ph_make T.make GI hr2 (by rfl) mC bI (pah_cons (ph_callTy l_tuple call_tuple_of (by rfl) B.tuple boot_tuple (pah_cons (ph_var (pv 1)) pah_nil)) pah_nil))))), ?_⟩
  rintro ds A Q ⟨L, r, l, rfl, hL, hlen, ok, q⟩
  have ez : sizeLine = 16777216 := sizeLine_eq
  walk_at "w"
  intro j A1 n1
  walk_at "w"
  refine ⟨fun i σ A' => ∃ (v2 : Option D) (ps : List (Nat × Nat)), σ = [some (.tup (dN L)), some (.ptr j), v2] ∧ Loc [] A [(j, .lst (dP ps))] A' ∧ spd ps = L.take i ∧ ps.length ≤ i ∧ ∀ p ∈ ps, 1 ≤ p.1 ∧ p.1 ≤ i ∧ p.2 ≤ 1000, ⟨none, [], rfl, Loc.nil.new n1 fun _ z => (nomatch z), rfl, Nat.le_refl _, fun _ z => nomatch z⟩, fun _ _ _ _ _ => trivial, ?_, ?_⟩
  · rintro i d σ A1 hi hd ⟨v2, ps, rfl, L1, hs, hpl, hok⟩
    have hi' : i < L.length := by have h : i < (dN L).length := hi; rw [dN_len] at h; exact h
    obtain ⟨sp, hsp, rfl⟩ : ∃ s, L[i]? = some s ∧ d = .v (.int (s : Nat)) := by
      have hd' : (dN L)[i]? = some d := hd
      rw [List.getElem?_map] at hd'
      cases e : L[i]? with
      | none => rw [e] at hd'; cases hd'
      | some u => rw [e] at hd'; exact ⟨u, rfl, (Option.some.inj hd').symm⟩
    have hs1 := ok sp (List.mem_of_getElem? hsp)
    have app : ∀ (D2 De : Eh) (v : D), (∀ σ A', (∃ (v2 : Option D) (ps : List (Nat × Nat)), σ = [some (.tup (dN L)), some (.ptr j), v2] ∧ Loc [] A [(j, .lst (dP ps))] A' ∧ spd ps = L.take (i + 1) ∧ ps.length ≤ i + 1 ∧ ∀ p ∈ ps, 1 ≤ p.1 ∧ p.1 ≤ i + 1 ∧ p.2 ≤ 1000) → De.nx σ A') → D2.nx = De.nx →
        hDrop (hApp (hVar 1) (hCons (hTup (hCons (hC (.v (.int 1))) (hCons (hVar 2) hNil))) hNil)) D2 [some (.tup (dN L)), some (.ptr j), some (.v (.int sp))] A1 := by
      intro D2 De v hDe h2
      walk_at "w"
      refine ⟨⟨_, L1.get0⟩, ?_⟩
      walk_at "w"
      refine ⟨_, L1.get0, by rw [dP_len]; omega, fun A2 p2 => ?_⟩
      rw [h2]
      refine hDe _ _ ⟨_, ps ++ [(1, sp)], rfl, ?_, ?_, by rw [List.length_append, List.length_singleton]; omega, fun p hp => ?_⟩
      · rw [dP_app]; exact L1.put0 p2
      · rw [spd_app, hs, List.take_add_one, hsp]; rfl
      · rcases List.mem_append.mp hp with h | h
        · have := hok p h; exact ⟨this.1, by omega, this.2.2⟩
        · rw [List.mem_singleton.mp h]; exact ⟨Nat.le_refl 1, by show 1 ≤ i + 1; omega, hs1⟩
    rcases List.eq_nil_or_concat ps with rfl | ⟨r', z, rfl⟩
    · walk_at "w"
      refine .inl ⟨_, L1.get0, ?_⟩
      refine .f ?_
      refine .f ?_
      refine app _ ?_ (.v .non) ?_ ?_
      rotate_left 2
      exact rfl
      exact fun _ _ h => h
    · rw [List.concat_eq_append] at *
      have hz := hok z (List.mem_append_right _ List.mem_cons_self)
      walk_at "w"
      refine .inl ⟨_, L1.get0, ?_⟩
      refine Br.t' (by rw [dP_app]; simp) ?_
      walk_at "w"
      refine ⟨_, L1.get0, dPc z, by rw [dP_app]; exact atI_last', ?_⟩
      walk_at "w"
      refine ⟨_, rfl, ?_⟩
      walk_at "w"
      refine .d (fun c => ?_) (fun c => ?_)
      · have c' : z.2 = sp := by omega
        walk_at "w"
        refine ⟨_, L1.get0, dPc z, by rw [dP_app]; exact atI_last', ?_⟩
        walk_at "w"
        refine ⟨_, rfl, ?_⟩
        walk_at "w"
        refine ⟨_, r'.length, L1.get0, ?_, fun A2 p2 => ?_⟩
        · rw [dP_len, List.length_append]
          show ixN (r'.length + 1) (-1) = some r'.length
          unfold ixN
          rw [if_neg (by decide), if_pos (by omega)]
          congr 1
          omega
        · have es : (dP (r' ++ [z])).set r'.length (.tup [.v (.int ((z.1 : Int) + 1)), .v (.int sp)]) = dP (r' ++ [(z.1 + 1, sp)]) := by
            rw [dP_app, dP_app, List.set_append_right _ _ (by rw [dP_len]; exact Nat.le_refl _), dP_len, Nat.sub_self]
            rfl
          rw [es] at p2
          refine ⟨_, r' ++ [(z.1 + 1, sp)], rfl, L1.put0 p2, ?_, by rw [List.length_append] at hpl ⊢; simp at hpl ⊢; omega, fun p hp => ?_⟩
          · rw [List.take_add_one, hsp, ← hs, spd_app, spd_app, List.append_assoc]
            congr 1
            show List.replicate (z.1 + 1) sp ++ [] = List.replicate z.1 z.2 ++ [] ++ [sp]
            rw [List.append_nil, List.append_nil, c', List.replicate_succ']
          · rcases List.mem_append.mp hp with h | h
            · have := hok p (List.mem_append_left _ h); exact ⟨this.1, by omega, this.2.2⟩
            · rw [List.mem_singleton.mp h]; exact ⟨by show 1 ≤ z.1 + 1; omega, by show z.1 + 1 ≤ i + 1; omega, hs1⟩
      · refine app _ ?_ (.v .non) ?_ ?_
        rotate_left 2
        exact rfl
        exact fun _ _ h => h
  · rintro σ A1 ⟨v2, ps, rfl, L1, hs, hpl, hok⟩
    replace hs : spd ps = L := by
      have h : spd ps = L.take (dN L).length := hs
      rw [dN_len, List.take_length] at h
      exact h
    replace hpl : ps.length ≤ L.length := by have h : ps.length ≤ (dN L).length := hpl; rw [dN_len] at h; exact h
    walk_at "w"
    refine ⟨_, L1.get0, ?_⟩
    walk_at "w"
    intro x A2' n2'
    refine made_road n2' fun A2 n2 => ⟨rfl, ?_⟩
    have L2 := L1.new n2 fun _ z => nomatch z
    refine q x ps A2 n2.get (L2.ne _ List.mem_cons_self).2 ⟨by omega, fun p hp => ⟨(hok p hp).1, ?_, (hok p hp).2.2⟩, ?_⟩ hs L2.kp
    · have h : p.1 ≤ (dN L).length := (hok p hp).2.1
      rw [dN_len] at h
      omega
    · rcases List.eq_nil_or_concat ps with rfl | ⟨r', z, rfl⟩
      · rw [hL] at hs
        cases r <;> cases hs
      · rw [List.concat_eq_append] at *
        have hz := hok z (List.mem_append_right _ List.mem_cons_self)
        refine ⟨r', z, rfl, ?_⟩
        obtain ⟨m, hm⟩ : ∃ m, z.1 = m + 1 := ⟨z.1 - 1, by omega⟩
        rw [hL, spd_app, show spd [z] = List.replicate z.1 z.2 ++ [] from rfl, List.append_nil, hm, List.replicate_succ', ← List.append_assoc] at hs
        exact (List.append_inj' hs rfl).2 |> fun h => by cases h; rfl
end
end Rp

/-! Ends of fetches: greater sizes, later begins, one behind another, thrice the speeds, half of them. -/
namespace Rp
open PySem PySem.Spec PyProof.Rows L2
theorem IsEnd.le_of {L : List Nat} {l f s e e' : Nat} (h : IsEnd L l f s e) (h' : s ≤ sumT L l f e') : e ≤ e' := by
  obtain ⟨a1, a2, a3⟩ := h
  rcases Nat.lt_or_ge e' e with c | c
  · have := sumT_mono L l f (show e' ≤ e - 1 by omega)
    omega
  · exact c
theorem sumT_anti (L : List Nat) (l f e : Nat) : sumT L l (f + 1) e ≤ sumT L l f e := by
  by_cases c : f + 1 ≤ e
  · have := sumT_add L l f (f + 1) e (by omega) c
    omega
  · rw [sumT_zero (show e ≤ f + 1 by omega)]
    exact Nat.zero_le _
theorem IsEnd.whole {L : List Nat} {l f s e : Nat} (h : IsEnd L l f s e) (hs : 1 ≤ s) : IsEnd L l f (sumT L l f e) e :=
  ⟨h.1, Nat.le_refl _, by have h2 := h.2.1; have h3 := h.2.2; omega⟩
/-- each speed thrice -/
def thr (ps : List (Nat × Nat)) : List (Nat × Nat) := ps.map fun p => (p.1, 3 * p.2)
theorem spd_thr : ∀ ps : List (Nat × Nat), spd (thr ps) = (spd ps).map (3 * ·)
  | [] => rfl
  | p :: ps => by
    show List.replicate p.1 (3 * p.2) ++ spd (thr ps) = (List.replicate p.1 p.2 ++ spd ps).map (3 * ·)
    rw [spd_thr ps, List.map_append, List.map_replicate]
theorem sumT_thr (L : List Nat) (l f e : Nat) : sumT (L.map (3 * ·)) (3 * l) f e = 3 * sumT L l f e := by
  induction e with
  | zero => rw [sumT_zero (Nat.zero_le _), sumT_zero (Nat.zero_le _)]
  | succ e ih =>
    by_cases c : f ≤ e
    · rw [sumT_succ c, sumT_succ c, ih, Nat.mul_add]
      congr 1
      rw [List.getD_eq_getElem?_getD, List.getD_eq_getElem?_getD, List.getElem?_map]
      cases L[e]? <;> rfl
    · rw [sumT_zero (by omega), sumT_zero (by omega)]
theorem IsEnd.thr {L : List Nat} {l f s e : Nat} (h : IsEnd L l f s e) : IsEnd (L.map (3 * ·)) (3 * l) f (3 * s) e :=
  ⟨h.1, by rw [sumT_thr]; have := h.2.1; omega, by rw [sumT_thr]; have := h.2.2; omega⟩
/-- each beat twice, at half the speed -/
def hlv (ps : List (Nat × Nat)) : List (Nat × Nat) := ps.map fun p => (2 * p.1, p.2 / 2)
def dup (L : List Nat) : List Nat := L.flatMap fun s => [s / 2, s / 2]
theorem dup_rep (n s : Nat) : dup (List.replicate n s) = List.replicate (2 * n) (s / 2) := by
  induction n with
  | zero => rfl
  | succ n ih =>
    rw [List.replicate_succ]
    show [s / 2, s / 2] ++ dup (List.replicate n s) = _
    rw [ih, show 2 * (n + 1) = (2 * n + 1) + 1 by omega, List.replicate_succ, List.replicate_succ]
    rfl
theorem spd_hlv : ∀ ps : List (Nat × Nat), spd (hlv ps) = dup (spd ps)
  | [] => rfl
  | p :: ps => by
    show List.replicate (2 * p.1) (p.2 / 2) ++ spd (hlv ps) = dup (List.replicate p.1 p.2 ++ spd ps)
    rw [spd_hlv ps, show dup (List.replicate p.1 p.2 ++ spd ps) = dup (List.replicate p.1 p.2) ++ dup (spd ps) from List.flatMap_append, dup_rep]
theorem dup_get : ∀ (L : List Nat) (l t : Nat), (dup L).getD (2 * t) (l / 2) = L.getD t l / 2 ∧ (dup L).getD (2 * t + 1) (l / 2) = L.getD t l / 2
  | [], l, t => ⟨by simp [dup], by simp [dup]⟩
  | s :: L, l, 0 => ⟨rfl, rfl⟩
  | s :: L, l, t + 1 => by
    have ih := dup_get L l t
    have e1 : (dup (s :: L)).getD (2 * (t + 1)) (l / 2) = (dup L).getD (2 * t) (l / 2) := by
      show ([s / 2, s / 2] ++ dup L).getD (2 * (t + 1)) (l / 2) = _
      rw [show 2 * (t + 1) = 2 * t + 1 + 1 by omega]
      rfl
    have e2 : (dup (s :: L)).getD (2 * (t + 1) + 1) (l / 2) = (dup L).getD (2 * t + 1) (l / 2) := by
      show ([s / 2, s / 2] ++ dup L).getD (2 * (t + 1) + 1) (l / 2) = _
      rw [show 2 * (t + 1) + 1 = 2 * t + 1 + 1 + 1 by omega]
      rfl
    rw [e1, e2]
    exact ih
theorem sumT_dup {L : List Nat} {l : Nat} (hL : ∀ s ∈ L, s % 2 = 0) (hl : l % 2 = 0) (f e : Nat) : sumT (dup L) (l / 2) (2 * f) (2 * e) = sumT L l f e := by
  induction e with
  | zero => rw [sumT_zero (Nat.zero_le _), sumT_zero (Nat.zero_le _)]
  | succ e ih =>
    by_cases c : f ≤ e
    · have h : L.getD e l % 2 = 0 := by
        rw [List.getD_eq_getElem?_getD]
        cases h : L[e]? with
        | none => exact hl
        | some s => exact hL s (List.mem_of_getElem? h)
      rw [show 2 * (e + 1) = 2 * e + 1 + 1 by omega, sumT_succ (by omega), sumT_succ (by omega), sumT_succ c, ih, (dup_get L l e).1, (dup_get L l e).2]
      omega
    · rw [sumT_zero (by omega), sumT_zero (by omega)]
theorem IsEnd.dup {L : List Nat} {l f s e e' : Nat} (hL : ∀ s ∈ L, s % 2 = 0) (hl : l % 2 = 0) (h : IsEnd L l f s e) (h' : IsEnd (dup L) (l / 2) (2 * f) s e') : (e' + 1) / 2 = e := by
  have h1 : e' ≤ 2 * e := h'.le_of (by rw [sumT_dup hL hl]; exact h.2.1)
  have h2 : 2 * (e - 1) < e' := by
    rcases Nat.lt_or_ge (2 * (e - 1)) e' with c | c
    · exact c
    · have := sumT_mono (Rp.dup L) (l / 2) (2 * f) c
      rw [sumT_dup hL hl] at this
      have := h.2.2
      have := h'.2.1
      omega
  have := h.1
  omega
end Rp

/-! Things by their places; sums. -/
namespace Rp
open PySem PySem.Spec PyProof.Rows L2
local macro_rules | `(tactic| walk_at "w") => `(tactic| (conv => whnf))
/-- some thing of a list, by its place -/
theorem at_mem {xs : List D} {i : Int} (h0 : 0 ≤ i) (h1 : i < xs.length) : ∃ d, atI xs i = some d ∧ d ∈ xs := by
  obtain ⟨n, rfl⟩ := Int.eq_ofNat_of_zero_le h0
  have hn : n < xs.length := by omega
  exact ⟨xs[n], atI_nat (List.getElem?_eq_getElem hn), List.getElem_mem hn⟩
theorem sumC_succ {L : List Nat} {f e v : Nat} (h : f ≤ e) (hv : L[e]? = some v) : sumC L f (e + 1) = sumC L f e + v := by
  unfold sumC
  rw [show e + 1 - f = (e - f) + 1 by omega, List.take_add_one, List.sum_append, List.getElem?_drop, show f + (e - f) = e by omega, hv]
  simp
theorem sumC_none (L : List Nat) (f : Nat) : sumC L f f = 0 := by
  unfold sumC
  rw [Nat.sub_self]
  simp
theorem sumT_low {L : List Nat} {l f e : Nat} (h : e ≤ L.length) : sumT L l f e = sumC L f e := by
  unfold sumT
  rw [show e - max L.length f = 0 by omega]
  rfl
end Rp

namespace Rp
open PySem PySem.Spec PyProof.Rows L2
local macro_rules | `(tactic| walk_at "w") => `(tactic| (conv => whnf))
abbrev sGreat : Stmt := topS 8
theorem scGreat : FnScope ["_law_deck_here", "_law_found", "_law_k", "_law_beats", "_law_speed"] ["_law_deck_here"] (defScope sGreat) :=
  ⟨rfl, rfl, rfl, by decide +kernel, rfl, by decide +kernel, by decide +kernel⟩
abbrev sTrip : Stmt := topS 9
theorem scTrip : FnScope ["_law_deck_here", "_law_road", "_law_found", "_law_at", "_law_k", "_law_size", "_law_waited", "_law_ended_at"] ["_law_deck_here", "_law_road"] (defScope sTrip) :=
  ⟨rfl, rfl, rfl, by decide +kernel, rfl, by decide +kernel, by decide +kernel⟩
structure GreatP (ps : List (Nat × Nat)) (l : Nat) : Prop where
  good : Good ps l
  l2 : 2 ≤ l
  few : ps.length = 12
  ok : ∀ p ∈ ps, p.1 ≤ 50
theorem GreatP.speeds {ps : List (Nat × Nat)} {l : Nat} (h : GreatP ps l) : ∀ p ∈ ps, p.2 ≤ 100000 := fun p hp => Nat.le_trans (h.good.ok p hp).2.2 (by decide)
theorem GreatP.len {ps : List (Nat × Nat)} {l : Nat} (h : GreatP ps l) : (spd ps).length ≤ 600 := spd_len (n := 12) h.ok (by rw [h.few]; exact Nat.le_refl _)
def spGreat : Sph := fun ds A Q => ∃ k c, ds = [.ptr k] ∧ DeckAt A k c ∧ ∀ ps l A', GreatP ps l → DeckAt A' k c → Kp [k, c] A A' → Q (.tup (dP ps)) A'
structure Tr where
  a : Nat
  s : Nat
  w : Nat
  e : Nat
def Tr.q (t : Tr) : List Nat := [t.a, t.s, t.w, t.e]
abbrev dT (ts : List Tr) : List D := ts.map fun t => .tup [.v (.int t.a), .v (.int t.s), .v (.int t.w), .v (.int t.e)]
theorem dT_q (ts : List Tr) : dT ts = (ts.map Tr.q).map fun as : List Nat => D.tup (as.map fun n : Nat => .v (.int n)) := by
  rw [List.map_map]
  rfl
theorem dT_at {ts : List Tr} {i : Nat} {d : D} (h : (dT ts)[i]? = some d) : ∃ a s w e : Nat, ts[i]? = some ⟨a, s, w, e⟩ ∧ d = .tup [.v (.int a), .v (.int s), .v (.int w), .v (.int e)] := by
  rw [List.getElem?_map] at h
  cases e : ts[i]? with
  | none => rw [e] at h; cases h
  | some n => rw [e] at h; exact ⟨n.a, n.s, n.w, n.e, rfl, (Option.some.inj h).symm⟩
theorem dT_len (ts : List Tr) : (dT ts).length = ts.length := List.length_map _
theorem dT_app (a b : List Tr) : dT (a ++ b) = dT a ++ dT b := List.map_append
structure TripOk (L : List Nat) (l : Nat) (ts : List Tr) : Prop where
  ok : ∀ t ∈ ts, IsEnd L l (t.a + t.w) t.s t.e ∧ 1 ≤ t.s
  few : ts.length ≤ 12
def spTrip (C : Addr) : Sph := fun ds A Q => ∃ k c x ps l, ds = [.ptr k, .ptr x] ∧ DeckAt A k c ∧ RoadAt C A x ps ∧ x ∉ [k, c] ∧ GreatP ps l ∧ ∀ j ts A', A'[j]? = some (.lst (dT ts)) → A[j]? = none → TripOk (spd ps) l ts → ts ≠ [] → DeckAt A' k c → Kp [k, c] A A' → Q (.ptr j) A'
section
variable {P : Program} {w : World} {K : PySem.W.Frag} {mg : Str → Option Value} {base : Heap} {C fI fL fF fBf : Addr} {fdL fdF fdBf : FuncData}
theorem ok_great {f fD : Addr} {fd fdD : FuncData} (F : Fun K "_law_great" "_law_great" sGreat f fd) (B : Bi mg) (FD : Fun K "_law_draw" "_law_draw" sDraw fD fdD) (mD : mg "_law_draw" = some (.ref fD)) (bD : L2.Binds K fdD ["_law_deck_here", "_law_ways"] []) :
    FnG P w K mg base CX0 2 f fd ["_law_deck_here"] (spOf K 1 spGreat) := by
  have G : FnG P w K mg base CX0 1 fD fdD ["_law_deck_here", "_law_ways"] (spOf K 2 spDraw) := ok_draw FD B
  refine okGH F scGreat fun cdv Ao outer s H E gA hr => have hu := hr.units; have hr1 : Room 1 _ := hr; ⟨_, pssh_cons (psh_set (i := 1) scGreat.nd rfl (Or.inl rfl) (ph_lst (pah_nil)))
    (pssh_cons (psh_for lg_name PassesOwn.never rfl (pih_range1 (by rfl) B.range (pah_cons (ph_c pe_int) pah_nil)) (pg_name (i := 2) scGreat.nd rfl (Or.inl rfl)) (pssh_cons (psh_set (i := 3) scGreat.nd rfl (Or.inl rfl) (ph_ix l_ix ix_seq (ph_lst (pah_cons (ph_c pe_int) (pah_cons (ph_op l_add op_addA (ph_c pe_int) (ph_call G gA hr1 (by rfl) mD FD.kp bD (pah_cons (ph_var (pv 0)) (pah_cons (ph_c pe_int) pah_nil)))) (pah_cons (ph_c pe_int) pah_nil)))) (ph_call G gA hr1 (by rfl) mD FD.kp bD (pah_cons (ph_var (pv 0)) (pah_cons (ph_c pe_int) pah_nil))) (fun _ _ => rfl)))
      (pssh_cons (psh_set (i := 4) scGreat.nd rfl (Or.inl rfl) (ph_ix l_ix ix_seq (ph_lst (pah_cons (ph_c pe_int) (pah_cons (ph_op l_mul op_mulA (ph_c pe_int) (ph_call G gA hr1 (by rfl) mD FD.kp bD (pah_cons (ph_var (pv 0)) (pah_cons (ph_c pe_int) pah_nil)))) (pah_cons (ph_c pe_int) (pah_cons (ph_c pe_int) (pah_cons (ph_op l_mul op_mulA (ph_c pe_int) (ph_call G gA hr1 (by rfl) mD FD.kp bD (pah_cons (ph_var (pv 0)) (pah_cons (ph_c pe_int) pah_nil)))) pah_nil)))))) (ph_call G gA hr1 (by rfl) mD FD.kp bD (pah_cons (ph_var (pv 0)) (pah_cons (ph_c pe_int) pah_nil))) (fun _ _ => rfl)))
      (pssh_one (psh_expr (ph_app (ph_var (pv 1)) (pah_cons (ph_tup (pah_cons (ph_var (pv 3)) (pah_cons (ph_var (pv 4)) pah_nil))) pah_nil)))))))
    (pssh_one (psh_ret (ph_callTy l_tuple call_tuple_of (by rfl) B.tuple boot_tuple (pah_cons (ph_op l_add op_addA (ph_slice (ph_var (pv 1)) poh_none (poh_some (ph_neg (ph_c pe_int)))) (ph_lst (pah_cons (ph_tup (pah_cons (ph_ix l_ix ix_seq (ph_ix l_ix ix_seq (ph_var (pv 1)) (ph_neg (ph_c pe_int)) (fun _ _ => rfl)) (ph_c pe_int) (fun _ _ => rfl)) (pah_cons (ph_callB l_max (call_maxA rfl) (by rfl) B.max (by decide +kernel) (pah_cons (ph_c pe_int) (pah_cons (ph_ix l_ix ix_seq (ph_ix l_ix ix_seq (ph_var (pv 1)) (ph_neg (ph_c pe_int)) (fun _ _ => rfl)) (ph_c pe_int) (fun _ _ => rfl)) pah_nil))) pah_nil))) pah_nil))) pah_nil))))), ?_⟩
  rintro ds A Q ⟨k, c, rfl, D0, q⟩
  walk_at "w"
  intro f A4 n4
  have L : Loc [k, c] A [(f, .lst (dP []))] A4 := (Loc.nil.new n4 D0.lt)
  have D4 := D0.new n4
  clear D0 n4
  walk_at "w"
  refine ⟨⟨by decide, by decide⟩, fun i σ A' => ∃ v2 v3 v4 ps, σ = [some (.ptr k), some (.ptr f), v2, v3, v4] ∧ DeckAt A' k c ∧ Loc [k, c] A [(f, .lst (dP ps))] A' ∧ ps.length = i ∧ ∀ p ∈ ps, 1 ≤ p.1 ∧ p.1 ≤ 50 ∧ p.2 ≤ 1000,
    ⟨none, none, none, [], rfl, D4, L, rfl, fun _ z => nomatch z⟩, fun _ _ _ _ _ => trivial, ?_, ?_⟩
  · rintro i d σ A1 hi hd ⟨v2, v3, v4, ps, rfl, D1, L1, hl, ok⟩
    replace hi : i < 12 := hi
    cases Option.some.inj hd
    walk_at "w"
    refine ⟨k, c, _, rfl, D1, by decide, by decide, fun a A2 a0 a1 D2 kp => ?_⟩
    have L2 := L1.kept kp fun _ h => h
    clear D1 L1 kp
    walk_at "w"
    intro j5 A5 n5
    have L5 := L2.new n5 D2.lt
    walk_at "w"
    refine ⟨k, c, _, rfl, D2.new n5, by decide, by decide, fun y A6 y0 y1 D6 kp => ?_⟩
    have L6 := L5.kept kp fun _ h => h
    clear D2 L2 L5 kp n5
    walk_at "w"
    obtain ⟨z, hz, mem⟩ := at_mem (xs := [.v (.int 50), .v (.int (1 + a)), .v (.int 49)]) y0 y1
    refine ⟨_, L6.get0, z, hz, ?_⟩
    obtain ⟨be, rfl, hb1, hb2⟩ : ∃ b : Nat, z = .v (.int b) ∧ 1 ≤ b ∧ b ≤ 50 := by
      simp only [List.mem_cons, List.not_mem_nil, or_false] at mem
      rcases mem with rfl | rfl | rfl
      · exact ⟨50, rfl, by decide, by decide⟩
      · exact nat_of (by omega) (by omega)
      · exact ⟨49, rfl, by decide, by decide⟩
    have L6 := L6.drop
    clear hz mem a0 a1 y0 y1
    walk_at "w"
    refine ⟨k, c, _, rfl, D6, by decide, by decide, fun a A2 a0 a1 D2 kp => ?_⟩
    have L2 := L6.kept kp fun _ h => h
    clear D6 L6 kp
    walk_at "w"
    refine ⟨.inl ⟨by omega, by omega⟩, ?_⟩
    walk_at "w"
    refine ⟨k, c, _, rfl, D2, by decide, by decide, fun b A3 b0 b1 D3 kp => ?_⟩
    have L3 := L2.kept kp fun _ h => h
    clear D2 L2 kp
    walk_at "w"
    refine ⟨.inl ⟨by omega, by omega⟩, ?_⟩
    walk_at "w"
    intro j5 A5 n5
    have L5 := L3.new n5 D3.lt
    walk_at "w"
    refine ⟨k, c, _, rfl, D3.new n5, by decide, by decide, fun y A6 y0 y1 D6 kp => ?_⟩
    have L6 := L5.kept kp fun _ h => h
    clear D3 L3 L5 kp n5
    walk_at "w"
    obtain ⟨z, hz, mem⟩ := at_mem (xs := [.v (.int 0), .v (.int (2 * a)), .v (.int 2), .v (.int 1000), .v (.int (2 * b))]) y0 y1
    refine ⟨_, L6.get0, z, hz, ?_⟩
    obtain ⟨sp, rfl, _, hs⟩ : ∃ b : Nat, z = .v (.int b) ∧ 0 ≤ b ∧ b ≤ 1000 := by
      simp only [List.mem_cons, List.not_mem_nil, or_false] at mem
      rcases mem with rfl | rfl | rfl | rfl | rfl
      · exact ⟨0, rfl, by decide, by decide⟩
      · exact nat_of (by omega) (by omega)
      · exact ⟨2, rfl, by decide, by decide⟩
      · exact ⟨1000, rfl, by decide, by decide⟩
      · exact nat_of (by omega) (by omega)
    have L6 := L6.drop
    clear hz mem a0 a1 b0 b1 y0 y1
    walk_at "w"
    refine ⟨⟨_, L6.get0⟩, ?_⟩
    walk_at "w"
    refine ⟨_, L6.get0, by rw [dP_len]; omega, fun A8 p8 => ?_⟩
    refine ⟨_, _, _, ps ++ [(be, sp)], rfl, D6.put (L6.out (i := 0) rfl) p8, ?_, by rw [List.length_append, hl]; rfl, fun p hp => ?_⟩
    · rw [dP_app]
      exact L6.put0 p8
    · rcases List.mem_append.mp hp with q' | q'
      · exact ok p q'
      · rw [List.mem_singleton.mp q']; exact ⟨hb1, hb2, hs⟩
  · rintro σ A1 ⟨v2, v3, v4, ps, rfl, D1, L1, hl, ok⟩
    replace hl : ps.length = 12 := hl
    rcases List.eq_nil_or_concat ps with rfl | ⟨r, z, rfl⟩
    · cases hl
    rw [List.concat_eq_append] at *
    have hz := ok z (List.mem_append_right _ List.mem_cons_self)
    walk_at "w"
    refine ⟨_, L1.get0, fun j2 A2 n2 => ?_⟩
    rw [dP_app, show dP [z] = [dPc z] from rfl, cutD_last] at n2
    walk_at "w"
    refine ⟨_, n2.old L1.get0, dPc z, by rw [dP_app]; exact atI_last', ?_⟩
    walk_at "w"
    refine ⟨_, rfl, ?_⟩
    walk_at "w"
    refine ⟨_, n2.old L1.get0, dPc z, by rw [dP_app]; exact atI_last', ?_⟩
    walk_at "w"
    refine ⟨_, rfl, ?_⟩
    walk_at "w"
    intro j3 A3 n3
    walk_at "w"
    have ez : sizeLine = 16777216 := sizeLine_eq
    refine ⟨_, _, n3.old n2.get, n3.get, ?_, fun j4 A4 n4 => ?_⟩
    · rw [List.length_append] at hl
      rw [dP_len]
      show r.length + 1 ≤ sizeLine
      omega
    walk_at "w"
    refine ⟨_, n4.get, ?_⟩
    have e1 : dP r ++ [.tup [.v (.int z.1), .v (.int (max 2 (z.2 : Int)))]] = dP (r ++ [(z.1, max 2 z.2)]) := by
      rw [dP_app]
      show _ = dP r ++ [.tup [.v (.int z.1), .v (.int ((max 2 z.2 : Nat) : Int))]]
      rw [show ((max 2 z.2 : Nat) : Int) = max 2 (z.2 : Int) by omega]
    rw [e1]
    rw [List.length_append, List.length_singleton] at hl
    have ok2 : ∀ p ∈ r ++ [(z.1, max 2 z.2)], 1 ≤ p.1 ∧ p.1 ≤ 50 ∧ p.2 ≤ 1000 := fun p hp => by
      rcases List.mem_append.mp hp with q' | q'
      · exact ok p (List.mem_append_left _ q')
      · rw [List.mem_singleton.mp q']
        exact ⟨hz.1, hz.2.1, by show max 2 z.2 ≤ 1000; omega⟩
    refine q _ (max 2 z.2) A4 ⟨⟨?_, fun p hp => ⟨(ok2 p hp).1, Nat.le_trans (ok2 p hp).2.1 (by decide), (ok2 p hp).2.2⟩, r, _, rfl, rfl⟩, by omega, ?_, fun p hp => (ok2 p hp).2.1⟩ (((D1.new n2).new n3).new n4) (((L1.kp.new n2).new n3).new n4)
    · rw [List.length_append, List.length_singleton]; omega
    · rw [List.length_append, List.length_singleton]; omega
theorem ok_trip {f fD : Addr} {fd fdD : FuncData} (F : Fun K "_law_trip" "_law_trip" sTrip f fd) (B : Bi mg) (T : RdB K C fI) (FD : Fun K "_law_draw" "_law_draw" sDraw fD fdD) (mD : mg "_law_draw" = some (.ref fD)) (bD : L2.Binds K fdD ["_law_deck_here", "_law_ways"] [])
    (FL : Fun K "_last_speed" "Road._last_speed" sRLast fL fdL) (bL : L2.Binds K fdL ["self"] []) (mL : Meth K C "_last_speed" fL)
    (FBf : Fun K "_beats_for" "_beats_for" sBeatsFor fBf fdBf) (mBf : mg "_beats_for" = some (.ref fBf)) (bBf : L2.Binds K fdBf ["bits", "speed"] [])
    (FF' : Fun K "fetched" "Road.fetched" sFetched fF fdF) (FF : FunD K "fetched" "Road.fetched" (defArgs sFetched) (defBody sFetched) (defScope sFetched) [] [("wait", .int 0)] fF fdF) (mF : Meth K C "fetched" fF) :
    FnG P w K mg base CX0 3 f fd ["_law_deck_here", "_law_road"] (spOf K 2 (spTrip C)) := by
  have G : FnG P w K mg base CX0 1 fD fdD ["_law_deck_here", "_law_ways"] (spOf K 2 spDraw) := ok_draw FD B
  have GF : FnOk P w K mg base CX0 2 fF fdF ["self", "begin", "size", "wait"] (spOf K 4 (spFetched C)) := ok_fetched FF' T B FL bL mL FBf mBf bBf
  refine okGH F scTrip fun cdv Ao outer s H E gA hr => have hu := hr.units; have hr1 : Room 1 _ := hr.mono (by decide); have hr2 : Room 2 _ := hr; ⟨_, pssh_cons (psh_set (i := 2) scTrip.nd rfl (Or.inl rfl) (ph_lst (pah_nil)))
    (pssh_cons (psh_set (i := 3) scTrip.nd rfl (Or.inl rfl) (ph_ix l_ix ix_seq (ph_lst (pah_cons (ph_c pe_int) (pah_cons (ph_call G gA hr1 (by rfl) mD FD.kp bD (pah_cons (ph_var (pv 0)) (pah_cons (ph_c pe_int) pah_nil))) (pah_cons (ph_c pe_int) pah_nil)))) (ph_call G gA hr1 (by rfl) mD FD.kp bD (pah_cons (ph_var (pv 0)) (pah_cons (ph_c pe_int) pah_nil))) (fun _ _ => rfl)))
    (pssh_cons (psh_for lg_name PassesOwn.never rfl (pih_range1 (by rfl) B.range (pah_cons (ph_c pe_int) pah_nil)) (pg_name (i := 4) scTrip.nd rfl (Or.inl rfl)) (pssh_cons (psh_set (i := 5) scTrip.nd rfl (Or.inl rfl) (ph_ix l_ix ix_seq (ph_lst (pah_cons (ph_c pe_int) (pah_cons (ph_op l_add op_addA (ph_c pe_int) (ph_call G gA hr1 (by rfl) mD FD.kp bD (pah_cons (ph_var (pv 0)) (pah_cons (ph_c pe_int) pah_nil)))) (pah_cons (ph_op l_add op_addA (ph_c pe_int) (ph_call G gA hr1 (by rfl) mD FD.kp bD (pah_cons (ph_var (pv 0)) (pah_cons (ph_c pe_int) pah_nil)))) pah_nil)))) (ph_call G gA hr1 (by rfl) mD FD.kp bD (pah_cons (ph_var (pv 0)) (pah_cons (ph_c pe_int) pah_nil))) (fun _ _ => rfl)))
      (pssh_cons (psh_set (i := 6) scTrip.nd rfl (Or.inl rfl) (ph_ix l_ix ix_seq (ph_lst (pah_cons (ph_c pe_int) (pah_cons (ph_call G gA hr1 (by rfl) mD FD.kp bD (pah_cons (ph_var (pv 0)) (pah_cons (ph_c pe_int) pah_nil))) (pah_cons (ph_c pe_int) pah_nil)))) (ph_call G gA hr1 (by rfl) mD FD.kp bD (pah_cons (ph_var (pv 0)) (pah_cons (ph_c pe_int) pah_nil))) (fun _ _ => rfl)))
      (pssh_cons (psh_set (i := 7) scTrip.nd rfl (Or.inl rfl) (ph_methK (ph_var (pv 1)) T.cl mF GF hr2 kwd_app (fetched_binds FF).2 (pah_cons (ph_var (pv 3)) (pah_cons (ph_var (pv 5)) pah_nil)) (pkh_cons (ph_var (pv 6)) pkh_nil)))
      (pssh_one (psh_if (PW.pt (pwh_or (pth_cmp l_eq (op_eqA hu) (ph_var (pv 2)) (ph_lst (pah_nil)) (nomark _)) (pwh_or1 (pth_cmp l_lt op_lt (ph_var (pv 7)) (ph_c pe_int) (nomark _))))) (pssh_cons (psh_expr (ph_app (ph_var (pv 2)) (pah_cons (ph_tup (pah_cons (ph_var (pv 3)) (pah_cons (ph_var (pv 5)) (pah_cons (ph_var (pv 6)) (pah_cons (ph_var (pv 7)) pah_nil))))) pah_nil)))
        (pssh_one (psh_set (i := 3) scTrip.nd rfl (Or.inl rfl) (ph_var (pv 7))))) (pssh_nil)))))))
    (pssh_one (psh_ret (ph_var (pv 2)))))), ?_⟩
  rintro ds A Q ⟨k, c, x, ps, l, rfl, D0, hx, xk, gp, q⟩
  have l1 : 1 ≤ l := Nat.le_trans (by decide) gp.l2
  walk_at "w"
  intro f A1 n1
  have L1 : Loc [k, c] A [(f, .lst (dT []))] A1 := Loc.nil.new n1 D0.lt
  have D1 := D0.new n1
  clear D0 n1
  walk_at "w"
  refine ⟨k, c, _, rfl, D1, by decide, by decide, fun a A2 a0 a1 D2 kp => ?_⟩
  have L2 := L1.kept kp fun _ h => h
  clear D1 L1 kp
  walk_at "w"
  intro j5 A5 n5
  have L5 := L2.new n5 D2.lt
  walk_at "w"
  refine ⟨k, c, _, rfl, D2.new n5, by decide, by decide, fun y A6 y0 y1 D6 kp => ?_⟩
  have L6 := L5.kept kp fun _ h => h
  clear D2 L2 L5 kp n5
  walk_at "w"
  obtain ⟨z, hz, mem⟩ := at_mem (xs := [.v (.int 0), .v (.int a), .v (.int 600)]) y0 y1
  refine ⟨_, L6.get0, z, hz, ?_⟩
  obtain ⟨at0, rfl, _, _⟩ : ∃ b : Nat, z = .v (.int b) ∧ 0 ≤ b ∧ b ≤ 600 := by
    simp only [List.mem_cons, List.not_mem_nil, or_false] at mem
    rcases mem with rfl | rfl | rfl
    · exact ⟨0, rfl, by decide, by decide⟩
    · exact nat_of (by omega) (by omega)
    · exact ⟨600, rfl, by decide, by decide⟩
  have L6 := L6.drop
  clear hz mem a0 a1 y0 y1
  walk_at "w"
  refine ⟨⟨by decide, by decide⟩, fun i σ A' => ∃ (b : Nat) (v4 v5 v6 v7 : Option D) (ts : List Tr), σ = [some (.ptr k), some (.ptr x), some (.ptr f), some (.v (.int b)), v4, v5, v6, v7] ∧ DeckAt A' k c ∧ Loc [k, c] A [(f, .lst (dT ts))] A' ∧ ts.length ≤ i ∧ (∀ t ∈ ts, IsEnd (spd ps) l (t.a + t.w) t.s t.e ∧ 1 ≤ t.s) ∧ (i = 0 ∨ ts ≠ []),
    ⟨at0, none, none, none, none, [], rfl, D6, L6, Nat.le_refl _, (fun _ z => nomatch z), .inl rfl⟩, fun _ _ _ _ _ => trivial, ?_, ?_⟩
  · rintro i d σ A1 hi hd ⟨b, v4, v5, v6, v7, ts, rfl, D1, L1, hl, ok, _⟩
    replace hi : i < 12 := hi
    cases Option.some.inj hd
    clear D6 L6
    walk_at "w"
    refine ⟨k, c, _, rfl, D1, by decide, by decide, fun a A2 a0 a1 D2 kp => ?_⟩
    have L2 := L1.kept kp fun _ h => h
    clear D1 L1 kp
    walk_at "w"
    refine ⟨k, c, _, rfl, D2, by decide, by decide, fun u A3 u0 u1 D3 kp => ?_⟩
    have L3 := L2.kept kp fun _ h => h
    clear D2 L2 kp
    walk_at "w"
    intro j5 A5 n5
    have L5 := L3.new n5 D3.lt
    walk_at "w"
    refine ⟨k, c, _, rfl, D3.new n5, by decide, by decide, fun y A6 y0 y1 D6 kp => ?_⟩
    have L6 := L5.kept kp fun _ h => h
    clear D3 L3 L5 kp n5
    walk_at "w"
    obtain ⟨z, hz, mem⟩ := at_mem (xs := [.v (.int 1), .v (.int (1 + a)), .v (.int (1 + u))]) y0 y1
    refine ⟨_, L6.get0, z, hz, ?_⟩
    obtain ⟨sz, rfl, sz1, _⟩ : ∃ b : Nat, z = .v (.int b) ∧ 1 ≤ b ∧ b ≤ 10000 := by
      simp only [List.mem_cons, List.not_mem_nil, or_false] at mem
      rcases mem with rfl | rfl | rfl
      · exact ⟨1, rfl, by decide, by decide⟩
      · exact nat_of (by omega) (by omega)
      · exact nat_of (by omega) (by omega)
    have L6 := L6.drop
    clear hz mem a0 a1 u0 u1 y0 y1
    walk_at "w"
    refine ⟨k, c, _, rfl, D6, by decide, by decide, fun a A2 a0 a1 D2 kp => ?_⟩
    have L2 := L6.kept kp fun _ h => h
    clear D6 L6 kp
    walk_at "w"
    intro j5 A5 n5
    have L5 := L2.new n5 D2.lt
    walk_at "w"
    refine ⟨k, c, _, rfl, D2.new n5, by decide, by decide, fun y A6 y0 y1 D6 kp => ?_⟩
    have L6 := L5.kept kp fun _ h => h
    clear D2 L2 L5 kp n5
    walk_at "w"
    obtain ⟨z, hz, mem⟩ := at_mem (xs := [.v (.int 0), .v (.int a), .v (.int 400)]) y0 y1
    refine ⟨_, L6.get0, z, hz, ?_⟩
    obtain ⟨wt, rfl, _, _⟩ : ∃ b : Nat, z = .v (.int b) ∧ 0 ≤ b ∧ b ≤ 400 := by
      simp only [List.mem_cons, List.not_mem_nil, or_false] at mem
      rcases mem with rfl | rfl | rfl
      · exact ⟨0, rfl, by decide, by decide⟩
      · exact nat_of (by omega) (by omega)
      · exact ⟨400, rfl, by decide, by decide⟩
    have L6 := L6.drop
    clear hz mem a0 a1 y0 y1
    have hx6 : RoadAt C A6 x ps := L6.kp _ _ xk hx
    walk_at "w"
    refine ⟨_, hx6, rfl, ?_⟩
    walk_at "w"
    refine ⟨x, ps, l, b, sz, wt, rfl, hx6, gp.good.ends, l1, gp.speeds, sz1, fun e he => ?_⟩
    -- what follows: the fetch is noted
    have fin : ∀ (De : Eh), (∀ σ A', (∃ (b : Nat) (v4 v5 v6 v7 : Option D) (ts : List Tr), σ = [some (.ptr k), some (.ptr x), some (.ptr f), some (.v (.int b)), v4, v5, v6, v7] ∧ DeckAt A' k c ∧ Loc [k, c] A [(f, .lst (dT ts))] A' ∧ ts.length ≤ i + 1 ∧ (∀ t ∈ ts, IsEnd (spd ps) l (t.a + t.w) t.s t.e ∧ 1 ≤ t.s) ∧ (i + 1 = 0 ∨ ts ≠ [])) → De.nx σ A') →
        ∀ A7, DeckAt A7 k c → Loc [k, c] A [(f, .lst (dT ts))] A7 → hSeq (hDrop (hApp (hVar 2) (hCons (hTup (hCons (hVar 3) (hCons (hVar 5) (hCons (hVar 6) (hCons (hVar 7) hNil))))) hNil))) (hAsg (hVar 7) (hgName 3)) De
        [some (.ptr k), some (.ptr x), some (.ptr f), some (.v (.int b)), some (.v (.int (0 + (i : Int)))), some (.v (.int sz)), some (.v (.int wt)), some (.v (.int e))] A7 := by
      intro De hDe A7 D7 L7
      walk_at "w"
      refine ⟨⟨_, L7.get0⟩, ?_⟩
      walk_at "w"
      refine ⟨_, L7.get0, by rw [dT_len]; omega, fun A8 p8 => ?_⟩
      walk_at "w"
      refine hDe _ _ ⟨e, _, _, _, _, ts ++ [⟨b, sz, wt, e⟩], rfl, D7.put (L7.out (i := 0) rfl) p8, ?_, by rw [List.length_append, List.length_singleton]; omega, fun t ht => ?_, .inr (by simp)⟩
      · rw [dT_app]
        exact L7.put0 p8
      · rcases List.mem_append.mp ht with h | h
        · exact ok t h
        · rw [List.mem_singleton.mp h]; exact ⟨he, sz1⟩
    walk_at "w"
    intro j7 A7 n7
    have L7 := L6.new0 n7
    walk_at "w"
    refine ⟨_, (Enc.nat.tup).lst (as := ts.map Tr.q) (bs := []) (by decide) (by rw [← dT_q]; exact L7.get0) n7.get, ?_⟩
    walk_at "w"
    refine .d (fun _ => ?_) (fun h => ?_)
    · refine .t ?_
      exact fin _ (fun _ _ h => h) A7 (D6.new n7) L7
    · walk_at "w"
      refine .d (fun _ => ?_) (fun _ => ?_)
      · exact fin _ (fun _ _ h => h) A7 (D6.new n7) L7
      · walk_at "w"
        refine ⟨_, _, _, _, _, ts, rfl, D6.new n7, L7, by omega, ok, .inr fun z => h (by rw [z]; rfl)⟩
  · rintro σ A1 ⟨b, v4, v5, v6, v7, ts, rfl, D1, L1, hl, ok, hne⟩
    walk_at "w"
    exact q f ts A1 L1.get0 (L1.ne _ List.mem_cons_self).2 ⟨ok, hl⟩ (hne.resolve_left (by decide)) D1 L1.kp
end
end Rp

namespace Rp
open PySem PySem.Spec PyProof.Rows L2
local macro_rules | `(tactic| walk_at "w") => `(tactic| (conv => whnf))
abbrev sTripRight : Stmt := topS 10
theorem scTripRight : FnScope ["_law_road", "_law_trip_here", "_law_at", "_law_size", "_law_waited", "_law_ended_at"] ["_law_road", "_law_trip_here"] (defScope sTripRight) :=
  ⟨rfl, rfl, rfl, by decide +kernel, rfl, by decide +kernel, by decide +kernel⟩
abbrev sTogether : Stmt := topS 11
theorem scTogether : FnScope ["_law_road", "_law_trip_here", "_law_sizes", "_law_begun_at", "_law_size", "_law_waited", "_law_ended_at", "_law_start", "_law_at", "_law_first"] ["_law_road", "_law_trip_here"] (defScope sTogether) :=
  ⟨rfl, rfl, rfl, by decide +kernel, rfl, by decide +kernel, by decide +kernel⟩
def spTripRight (C : Addr) : Sph := fun ds A Q => ∃ x j ps l ts, ds = [.ptr x, .ptr j] ∧ RoadAt C A x ps ∧ A[j]? = some (.lst (dT ts)) ∧ GreatP ps l ∧ TripOk (spd ps) l ts ∧ Q (.v (.bl true)) A
def spTogether (C : Addr) : Sph := fun ds A Q => ∃ x j ps l ts, ds = [.ptr x, .ptr j] ∧ RoadAt C A x ps ∧ A[j]? = some (.lst (dT ts)) ∧ GreatP ps l ∧ TripOk (spd ps) l ts ∧ ts ≠ [] ∧ ∀ A', Kp [] A A' → Q (.v (.bl true)) A'
theorem GreatP.l1 {ps : List (Nat × Nat)} {l : Nat} (h : GreatP ps l) : l ≤ 1000 := h.good.l1
theorem cutD_toA (xs : List D) (j : Nat) : cutD xs none (some (j : Int)) = xs.take j := by
  by_cases h : j ≤ xs.length
  · exact cutD_to xs j h
  · unfold cutD
    rw [HT.sIx_nat, Nat.min_eq_right (by omega)]
    show List.take (xs.length - 0) (xs.drop 0) = _
    rw [List.drop_zero, Nat.sub_zero, List.take_length, List.take_of_length_le (by omega)]
theorem at_zero {d : D} {ds : List D} : atI (d :: ds) 0 = some d := atI_nat (j := 0) rfl
theorem sum_take_get {L : List Nat} {i v : Nat} (h : L[i]? = some v) : (L.take (i + 1)).sum = (L.take i).sum + v := by
  rw [List.take_add_one, h, List.sum_append]
  simp
section
variable {P : Program} {w : World} {K : PySem.W.Frag} {mg : Str → Option Value} {base : Heap} {C fI fL fO fF fBf : Addr} {fdI fdL fdO fdF fdBf : FuncData}
theorem ok_tripright {f : Addr} {fd : FuncData} (F : Fun K "_law_trip_right" "_law_trip_right" sTripRight f fd) (B : Bi mg) (T : RdB K C fI)
    (FL : Fun K "_last_speed" "Road._last_speed" sRLast fL fdL) (bL : L2.Binds K fdL ["self"] []) (mL : Meth K C "_last_speed" fL)
    (FO : Fun K "sum_of" "Road.sum_of" sSumOf fO fdO) (bO : L2.Binds K fdO ["self", "first", "last"] []) (mO : Meth K C "sum_of" fO)
    (FBf : Fun K "_beats_for" "_beats_for" sBeatsFor fBf fdBf) (mBf : mg "_beats_for" = some (.ref fBf)) (bBf : L2.Binds K fdBf ["bits", "speed"] [])
    (FF' : Fun K "fetched" "Road.fetched" sFetched fF fdF) (FF : FunD K "fetched" "Road.fetched" (defArgs sFetched) (defBody sFetched) (defScope sFetched) [] [("wait", .int 0)] fF fdF) (mF : Meth K C "fetched" fF) :
    FnG P w K mg base CX0 3 f fd ["_law_road", "_law_trip_here"] (spOf K 2 (spTripRight C)) := by
  have GO : FnOk P w K mg base CX0 2 fO fdO ["self", "first", "last"] (spOf K 3 (spSumOf C)) := ok_sumof FO T B FL bL mL
  have GF : FnOk P w K mg base CX0 2 fF fdF ["self", "begin", "size", "wait"] (spOf K 4 (spFetched C)) := ok_fetched FF' T B FL bL mL FBf mBf bBf
  refine okGH F scTripRight fun cdv Ao outer s H E gA hr => have hu := hr.units; have hr2 : Room 2 _ := hr; ⟨_, pssh_cons (psh_for (lg_tup (lg_cons lg_name (lg_cons lg_name (lg_cons lg_name (lg_cons lg_name lg_nil)))) (len_cons goes_name (len_cons goes_name (len_cons goes_name (len_cons goes_name len_nil))))) PassesOwn.never rfl (pih_seq (ph_var (pv 1))) (pg_tup rfl (pgs_cons (pg_name (i := 2) scTripRight.nd rfl (Or.inl rfl)) (pgs_cons (pg_name (i := 3) scTripRight.nd rfl (Or.inl rfl)) (pgs_cons (pg_name (i := 4) scTripRight.nd rfl (Or.inl rfl)) (pgs_cons (pg_name (i := 5) scTripRight.nd rfl (Or.inl rfl)) (pgs_nil)))))) (pssh_cons (psh_if (PW.pt (pwh_or (pth_cmp l_le op_le (ph_var (pv 5)) (ph_op l_add op_addA (ph_var (pv 2)) (ph_var (pv 4))) (nomark _)) (pwh_or1 (pth_cmp l_lt op_lt (ph_meth (ph_var (pv 0)) T.cl mO GO hr2 bO (pah_cons (ph_op l_add op_addA (ph_var (pv 2)) (ph_var (pv 4))) (pah_cons (ph_var (pv 5)) pah_nil))) (ph_var (pv 3)) (nomark _))))) (pssh_one (psh_ret (ph_c pe_bl))) (pssh_nil))
      (pssh_cons (psh_if (PW.pt (pwh_or (pth_cmp l_ge op_ge (ph_meth (ph_var (pv 0)) T.cl mO GO hr2 bO (pah_cons (ph_op l_add op_addA (ph_var (pv 2)) (ph_var (pv 4))) (pah_cons (ph_op l_sub op_sub (ph_var (pv 5)) (ph_c pe_int)) pah_nil))) (ph_var (pv 3)) (nomark _)) (pwh_or1 (pth_cmp l_lt op_lt (ph_methK (ph_var (pv 0)) T.cl mF GF hr2 kwd_app (fetched_binds FF).2 (pah_cons (ph_var (pv 2)) (pah_cons (ph_op l_add op_addA (ph_var (pv 3)) (ph_c pe_int)) pah_nil)) (pkh_cons (ph_var (pv 4)) pkh_nil)) (ph_var (pv 5)) (nomark _))))) (pssh_one (psh_ret (ph_c pe_bl))) (pssh_nil))
      (pssh_one (psh_if (PW.pt (pwh_or (pth_cmp l_lt op_lt (ph_methK (ph_var (pv 0)) T.cl mF GF hr2 kwd_app (fetched_binds FF).2 (pah_cons (ph_op l_add op_addA (ph_var (pv 2)) (ph_c pe_int)) (pah_cons (ph_var (pv 3)) pah_nil)) (pkh_cons (ph_var (pv 4)) pkh_nil)) (ph_var (pv 5)) (nomark _)) (pwh_or1 (pth_cmp l_ne (op_neA hu) (ph_methD (ph_var (pv 0)) T.cl mF GF hr2 (fetched_binds FF).1 (pah_cons (ph_op l_add op_addA (ph_var (pv 2)) (ph_var (pv 4))) (pah_cons (ph_var (pv 3)) pah_nil))) (ph_var (pv 5)) (nomark _))))) (pssh_one (psh_ret (ph_c pe_bl))) (pssh_nil))))))
    (pssh_one (psh_ret (ph_c pe_bl))), ?_⟩
  rintro ds A Q ⟨x, j, ps, l, ts, rfl, hx, hj, gp, ok, q⟩
  have l1 : 1 ≤ l := Nat.le_trans (by decide) gp.l2
  have sp1 : ∀ p ∈ ps, p.2 ≤ 1000 := fun p hp => (gp.good.ok p hp).2.2
  walk_at "w"
  refine ⟨_, hj, fun i σ A' => ∃ v2 v3 v4 v5, σ = [some (.ptr x), some (.ptr j), v2, v3, v4, v5] ∧ A' = A, ⟨_, _, _, _, rfl, rfl⟩, ?_, ?_, ?_⟩
  · rintro i σ A' _ ⟨_, _, _, _, _, rfl⟩
    exact hj
  · rintro i d σ A1 hi hd ⟨v2, v3, v4, v5, rfl, rfl⟩
    obtain ⟨a, s, w, e, ht, rfl⟩ := dT_at hd
    obtain ⟨he, hs⟩ := ok.ok _ (List.mem_of_getElem? ht)
    replace he : IsEnd (spd ps) l (a + w) s e := he
    replace hs : 1 ≤ s := hs
    have he1 := he.1
    walk_at "w"
    refine .d (fun c => absurd c (by omega)) (fun _ => ?_)
    walk_at "w"
    refine ⟨_, hx, rfl, ?_⟩
    walk_at "w"
    refine ⟨x, ps, l, a + w, e, rfl, hx, gp.good.ends, gp.l1, sp1, ?_⟩
    walk_at "w"
    refine .d (fun c => absurd c (by have := he.2.1; omega)) (fun _ => ?_)
    walk_at "w"
    refine ⟨_, hx, rfl, ?_⟩
    walk_at "w"
    rw [show (e : Int) - 1 = ((e - 1 : Nat) : Int) by omega]
    refine ⟨x, ps, l, a + w, e - 1, rfl, hx, gp.good.ends, gp.l1, sp1, ?_⟩
    walk_at "w"
    refine .d (fun c => absurd c (by have := he.2.2; omega)) (fun _ => ?_)
    walk_at "w"
    refine ⟨_, hx, rfl, ?_⟩
    walk_at "w"
    refine ⟨x, ps, l, a, s + 1, w, rfl, hx, gp.good.ends, l1, gp.speeds, by omega, fun e1 h1 => ?_⟩
    walk_at "w"
    refine .d (fun c => absurd c (by have := he.le_of (e' := e1) (Nat.le_trans (Nat.le_succ s) h1.2.1); omega)) (fun _ => ?_)
    walk_at "w"
    refine ⟨_, hx, rfl, ?_⟩
    walk_at "w"
    refine ⟨x, ps, l, a + 1, s, w, rfl, hx, gp.good.ends, l1, gp.speeds, hs, fun e2 h2 => ?_⟩
    walk_at "w"
    refine .d (fun c => absurd c (by
      have q1 : IsEnd (spd ps) l (a + w + 1) s e2 := by rw [show a + w + 1 = a + 1 + w by omega]; exact h2
      have := he.le_of (e' := e2) (Nat.le_trans q1.2.1 (sumT_anti _ _ _ _)); omega)) (fun _ => ?_)
    walk_at "w"
    refine ⟨_, hx, rfl, ?_⟩
    walk_at "w"
    refine ⟨x, ps, l, a + w, s, 0, rfl, hx, gp.good.ends, l1, gp.speeds, hs, fun e3 h3 => ?_⟩
    cases h3.uniq he
    walk_at "w"
    refine .n (fun c => absurd rfl c) (fun _ => ?_)
    exact ⟨_, _, _, _, rfl, rfl⟩
  · rintro σ A1 ⟨v2, v3, v4, v5, rfl, rfl⟩
    exact q
theorem ok_together {f : Addr} {fd : FuncData} (F : Fun K "_law_together_right" "_law_together_right" sTogether f fd) (B : Bi mg) (T : RdB K C fI)
    (FL : Fun K "_last_speed" "Road._last_speed" sRLast fL fdL) (bL : L2.Binds K fdL ["self"] []) (mL : Meth K C "_last_speed" fL)
    (FO : Fun K "sum_of" "Road.sum_of" sSumOf fO fdO) (bO : L2.Binds K fdO ["self", "first", "last"] []) (mO : Meth K C "sum_of" fO)
    (FBf : Fun K "_beats_for" "_beats_for" sBeatsFor fBf fdBf) (mBf : mg "_beats_for" = some (.ref fBf)) (bBf : L2.Binds K fdBf ["bits", "speed"] [])
    (FF' : Fun K "fetched" "Road.fetched" sFetched fF fdF) (FF : FunD K "fetched" "Road.fetched" (defArgs sFetched) (defBody sFetched) (defScope sFetched) [] [("wait", .int 0)] fF fdF) (mF : Meth K C "fetched" fF) :
    FnG P w K mg base CX0 3 f fd ["_law_road", "_law_trip_here"] (spOf K 2 (spTogether C)) := by
  have GO : FnOk P w K mg base CX0 2 fO fdO ["self", "first", "last"] (spOf K 3 (spSumOf C)) := ok_sumof FO T B FL bL mL
  have GF : FnOk P w K mg base CX0 2 fF fdF ["self", "begin", "size", "wait"] (spOf K 4 (spFetched C)) := ok_fetched FF' T B FL bL mL FBf mBf bBf
  refine okGH F scTogether fun cdv Ao outer s H E gA hr => have hu := hr.units; have hr2 : Room 2 _ := hr; ⟨_, pssh_cons (psh_setLc (i := 2) (own := [("_law_begun_at", 3), ("_law_size", 4), ("_law_waited", 5), ("_law_ended_at", 6)]) (lg_tup (lg_cons lg_name (lg_cons lg_name (lg_cons lg_name (lg_cons lg_name lg_nil)))) (len_cons goes_name (len_cons goes_name (len_cons goes_name (len_cons goes_name len_nil))))) (keeps_tup (keeps_cons (keeps_name (by decide)) (keeps_cons (keeps_name (by decide)) (keeps_cons (keeps_name (by decide)) (keeps_cons (keeps_name (by decide)) keeps_nil mono_name) mono_name) mono_name) mono_name)) rfl scTogether.nd rfl rfl (sw_true rfl rfl rfl (by decide +kernel)) (pih_seq (ph_slice (ph_var (pv 1)) poh_none (poh_some (ph_c pe_int)))) (blkOk_by (own := [("_law_begun_at", 3), ("_law_size", 4), ("_law_waited", 5), ("_law_ended_at", 6)]) (N := ["_law_road", "_law_trip_here", "_law_sizes", "_law_begun_at", "_law_size", "_law_waited", "_law_ended_at", "_law_start", "_law_at", "_law_first"]) (sc := defScope sTogether) (by decide +kernel)) (fun _ _ _ _ _ => pg_tup rfl (pgs_cons (pg_name (i := 3) scTogether.nd rfl (Or.inl rfl)) (pgs_cons (pg_name (i := 4) scTogether.nd rfl (Or.inl rfl)) (pgs_cons (pg_name (i := 5) scTogether.nd rfl (Or.inl rfl)) (pgs_cons (pg_name (i := 6) scTogether.nd rfl (Or.inl rfl)) (pgs_nil)))))) (fun _ _ _ _ _ => ptsh_nil) (fun _ _ _ _ _ => ph_callB l_min (call_minA rfl) (by rfl) B.min (by decide +kernel) (pah_cons (ph_var (pv 4)) (pah_cons (ph_c pe_int) pah_nil))))
    (pssh_cons (psh_set (i := 7) scTogether.nd rfl (Or.inl rfl) (ph_ix l_ix ix_seq (ph_ix l_ix ix_seq (ph_var (pv 1)) (ph_c pe_int) (fun _ _ => rfl)) (ph_c pe_int) (fun _ _ => rfl)))
    (pssh_cons (psh_set (i := 8) scTogether.nd rfl (Or.inl rfl) (ph_var (pv 7)))
    (pssh_cons (psh_for lg_name PassesOwn.never rfl (pih_seq (ph_var (pv 2))) (pg_name (i := 4) scTogether.nd rfl (Or.inl rfl)) (pssh_one (psh_set (i := 8) scTogether.nd rfl (Or.inl rfl) (ph_methD (ph_var (pv 0)) T.cl mF GF hr2 (fetched_binds FF).1 (pah_cons (ph_var (pv 8)) (pah_cons (ph_var (pv 4)) pah_nil))))))
    (pssh_cons (psh_if (pth_cmp l_lt op_lt (ph_var (pv 8)) (ph_methD (ph_var (pv 0)) T.cl mF GF hr2 (fetched_binds FF).1 (pah_cons (ph_var (pv 7)) (pah_cons (ph_callB l_sum (call_sumA rfl) (by rfl) B.sum (by decide +kernel) (pah_cons (ph_var (pv 2)) pah_nil)) pah_nil))) (nomark _)) (pssh_one (psh_ret (ph_c pe_bl))) (pssh_nil))
    (pssh_cons (psh_set (i := 9) scTogether.nd rfl (Or.inl rfl) (ph_methD (ph_var (pv 0)) T.cl mF GF hr2 (fetched_binds FF).1 (pah_cons (ph_var (pv 7)) (pah_cons (ph_ix l_ix ix_seq (ph_var (pv 2)) (ph_c pe_int) (fun _ _ => rfl)) pah_nil))))
    (pssh_one (psh_ret (ph_cmp l_eq (op_eqA hu) (ph_methD (ph_var (pv 0)) T.cl mF GF hr2 (fetched_binds FF).1 (pah_cons (ph_var (pv 7)) (pah_cons (ph_meth (ph_var (pv 0)) T.cl mO GO hr2 bO (pah_cons (ph_var (pv 7)) (pah_cons (ph_var (pv 9)) pah_nil))) pah_nil))) (ph_var (pv 9)) (nomark _))))))))), ?_⟩
  rintro ds A Q ⟨x, j, ps, l, ts, rfl, hx, hj, gp, ok, ne, q⟩
  have l1 : 1 ≤ l := Nat.le_trans (by decide) gp.l2
  have sp1 : ∀ p ∈ ps, p.2 ≤ 1000 := fun p hp => (gp.good.ok p hp).2.2
  walk_at "w"
  refine ⟨_, hj, fun j1 A1 n1 => ?_⟩
  obtain ⟨t0, rest, rfl⟩ : ∃ t0 rest, ts = t0 :: rest := by
    cases ts with
    | nil => exact absurd rfl ne
    | cons a l => exact ⟨a, l, rfl⟩
  have e6 : cutD (dT (t0 :: rest)) none (some 6) = dT (t0 :: rest.take 5) := by
    rw [show (6 : Int) = ((6 : Nat) : Int) from rfl, cutD_toA]
    unfold dT
    rw [List.map_cons, List.take_succ_cons, List.map_cons, List.map_take]
  rw [e6] at n1
  have hs0 : ∀ t ∈ t0 :: rest.take 5, 1 ≤ t.s := fun t ht => (ok.ok t (by
    rcases List.mem_cons.mp ht with rfl | h
    · exact List.mem_cons_self
    · exact List.mem_cons_of_mem _ (List.mem_of_mem_take h))).2
  have hl0 : (t0 :: rest.take 5).length ≤ 6 := by rw [List.length_cons, List.length_take]; omega
  have hj1 := n1.old hj
  have hx1 : RoadAt C A1 x ps := n1.old hx
  have g1 := n1.get
  have kp1 : Kp [] A A1 := Kp.of_new n1
  obtain ⟨tt, et0⟩ : ∃ tt, tt = t0 :: rest.take 5 := ⟨_, rfl⟩
  rw [← et0] at g1 hs0 hl0
  walk_at "w"
  refine ⟨_, g1, fun n acc A' => acc = dN ((tt.take n).map fun t => min t.s 1500) ∧ A' = A1, by show (dT tt).length ≤ 100000; rw [dT_len]; omega, ⟨rfl, rfl⟩, ?_, ?_, ?_⟩
  · rintro i acc A' _ ⟨_, rfl⟩
    exact g1
  · rintro n d acc A' hn hd ⟨rfl, rfl⟩
    obtain ⟨a, s, w, e, ht, rfl⟩ := dT_at hd
    walk_at "w"
    refine .t ?_
    walk_at "w"
    refine ⟨?_, rfl⟩
    rw [List.take_add_one, ht, Option.toList_some, List.map_append, dN_app]
    show _ = _ ++ [D.v (.int ((min s 1500 : Nat) : Int))]
    rw [show ((min s 1500 : Nat) : Int) = min (s : Int) 1500 by omega]
  rintro acc A' ⟨rfl, rfl⟩
  intro j2 A2 n2
  have ett : List.take (srcL j1 (dT tt)).n tt = tt := by
    show List.take (dT tt).length tt = _
    rw [dT_len, List.take_length]
  rw [ett] at n2
  have hj2 := n2.old hj1
  have hx2 : RoadAt C A2 x ps := n2.old hx1
  have g2 := n2.get
  have kp2 := kp1.new n2
  have hsz : ∀ s ∈ tt.map fun t => min t.s 1500, 1 ≤ s := fun s hs => by
    obtain ⟨t, ht, rfl⟩ := List.mem_map.mp hs
    have := hs0 t ht
    omega
  have hszl : (tt.map fun t => min t.s 1500).length ≤ 6 := by rw [List.length_map]; exact hl0
  obtain ⟨s0, srest, es⟩ : ∃ s0 srest, (tt.map fun t => min t.s 1500) = s0 :: srest := ⟨_, _, by rw [et0]; rfl⟩
  have hs01 : 1 ≤ s0 := hsz s0 (by rw [es]; exact List.mem_cons_self)
  clear et0 hs0 hl0 n2 n1 g1 hj1 hx1 kp1
  generalize (tt.map fun t => min t.s 1500) = sz at g2 hsz hszl es
  walk_at "w"
  refine ⟨_, hj2, _, at_zero, ?_⟩
  walk_at "w"
  refine ⟨_, rfl, ?_⟩
  walk_at "w"
  have ln : ∀ i, i ≤ (dN sz).length → i ≤ sz.length := fun i hi => by rw [dN_len] at hi; exact hi
  refine ⟨_, g2, fun i σ A' => ∃ (b : Nat) (v3 v4 v5 v6 v9 : Option D), σ = [some (.ptr x), some (.ptr j), some (.ptr j2), v3, v4, v5, v6, some (.v (.int (t0.a : Nat))), some (.v (.int b)), v9] ∧ A' = A2 ∧ t0.a ≤ b ∧ (sz.take i).sum ≤ sumT (spd ps) l t0.a b, ⟨t0.a, _, _, _, _, _, rfl, rfl, Nat.le_refl _, Nat.zero_le _⟩, ?_, ?_, ?_⟩
  · rintro i σ A' _ ⟨_, _, _, _, _, _, _, rfl, _⟩
    exact g2
  · rintro i d σ A' hi hd ⟨b, v3, v4, v5, v6, v9, rfl, rfl, hb, hsum⟩
    obtain ⟨s, hs, rfl⟩ : ∃ s, sz[i]? = some s ∧ d = .v (.int (s : Nat)) := by
      have hd' : (dN sz)[i]? = some d := hd
      rw [List.getElem?_map] at hd'
      cases e : sz[i]? with
      | none => rw [e] at hd'; cases hd'
      | some u => rw [e] at hd'; exact ⟨u, rfl, (Option.some.inj hd').symm⟩
    have hs1 := hsz s (List.mem_of_getElem? hs)
    walk_at "w"
    refine ⟨_, hx2, rfl, ?_⟩
    walk_at "w"
    refine ⟨x, ps, l, b, s, 0, rfl, hx2, gp.good.ends, l1, gp.speeds, hs1, fun e he => ?_⟩
    refine ⟨e, _, _, _, _, _, rfl, rfl, by have := he.1; omega, ?_⟩
    rw [sum_take_get hs, ← sumT_add (spd ps) l t0.a b e hb (by have := he.1; omega)]
    have h2 : s ≤ sumT (spd ps) l b e := he.2.1
    omega
  · rintro σ A' ⟨b, v3, v4, v5, v6, v9, rfl, rfl, hb, hsum⟩
    replace hsum : sz.sum ≤ sumT (spd ps) l t0.a b := by
      have h : (sz.take (dN sz).length).sum ≤ sumT (spd ps) l t0.a b := hsum
      rw [dN_len, List.take_length] at h
      exact h
    have hS : 1 ≤ sz.sum := by rw [es, List.sum_cons]; omega
    walk_at "w"
    refine ⟨_, hx2, rfl, ?_⟩
    walk_at "w"
    refine ⟨sz.map fun n : Nat => (n : Int), by rw [g2, dN_dI], ?_⟩
    rw [sum_cast]
    walk_at "w"
    refine ⟨x, ps, l, t0.a, sz.sum, 0, rfl, hx2, gp.good.ends, l1, gp.speeds, hS, fun e he => ?_⟩
    walk_at "w"
    refine .d (fun c => absurd c (by have := he.le_of (e' := b) hsum; omega)) (fun _ => ?_)
    walk_at "w"
    refine ⟨_, hx2, rfl, ?_⟩
    walk_at "w"
    refine ⟨_, g2, .v (.int (s0 : Nat)), by rw [es]; exact at_zero, ?_⟩
    walk_at "w"
    refine ⟨x, ps, l, t0.a, s0, 0, rfl, hx2, gp.good.ends, l1, gp.speeds, hs01, fun e1 h1 => ?_⟩
    walk_at "w"
    refine ⟨_, hx2, rfl, ?_⟩
    walk_at "w"
    refine ⟨_, hx2, rfl, ?_⟩
    walk_at "w"
    refine ⟨x, ps, l, t0.a, e1, rfl, hx2, gp.good.ends, gp.l1, sp1, ?_⟩
    walk_at "w"
    refine ⟨x, ps, l, t0.a, sumT (spd ps) l t0.a e1, 0, rfl, hx2, gp.good.ends, l1, gp.speeds, Nat.le_trans hs01 h1.2.1, fun e2 h2 => ?_⟩
    cases h2.uniq (h1.whole hs01)
    walk_at "w"
    rw [decide_eq_true rfl]
    exact q _ kp2
end
end Rp

namespace Rp
open PySem PySem.Spec PyProof.Rows L2
local macro_rules | `(tactic| walk_at "w") => `(tactic| (conv => whnf))
abbrev sTurned : Stmt := topS 12
theorem scTurned : FnScope ["_law_pieces", "_law_trip_here", "_law_small", "_law_beats", "_law_speed", "_law_road", "_law_thrice", "_law_halves", "_law_at", "_law_size", "_law_waited", "_law_ended_at", "_law_some", "_law_later", "_law_due"] ["_law_pieces", "_law_trip_here"] (defScope sTurned) :=
  ⟨rfl, rfl, rfl, by decide +kernel, rfl, by decide +kernel, by decide +kernel⟩
def spTurned : Sph := fun ds A Q => ∃ j ps l ts, ds = [.tup (dP ps), .ptr j] ∧ A[j]? = some (.lst (dT ts)) ∧ GreatP ps l ∧ (∀ t ∈ ts, 1 ≤ t.s) ∧ ∀ A', Kp [] A A' → Q (.v (.bl true)) A'
/-- lesser pieces, at most 25 beats -/
def smP (r : List (Nat × Nat)) : List (Nat × Nat) := r.map (fun p => (1 + p.1 / 2, p.2 / 6 * 2)) ++ [(9, 2)]
def rdP (r : List (Nat × Nat)) : List (Nat × Nat) := (smP r).map fun p => (min 25 p.1, p.2)
theorem rdP_ok {r : List (Nat × Nat)} (h : ∀ p ∈ r, p.2 ≤ 1000) : ∀ p ∈ rdP r, p.2 ≤ 1000 ∧ p.2 % 2 = 0 := fun p hp => by
  obtain ⟨u, hu, rfl⟩ := List.mem_map.mp hp
  rcases List.mem_append.mp hu with h1 | h1
  · obtain ⟨v, hv, rfl⟩ := List.mem_map.mp h1
    have := h v hv
    show v.2 / 6 * 2 ≤ 1000 ∧ v.2 / 6 * 2 % 2 = 0
    omega
  · rw [List.mem_singleton.mp h1]
    exact ⟨by show 2 ≤ 1000; decide, rfl⟩
theorem rdP_ends (r : List (Nat × Nat)) : rdP r = (r.map (fun p => (1 + p.1 / 2, p.2 / 6 * 2))).map (fun p => (min 25 p.1, p.2)) ++ [(9, 2)] := by
  unfold rdP smP
  rw [List.map_append]
  rfl
theorem spd_even {ps : List (Nat × Nat)} (h : ∀ p ∈ ps, p.2 % 2 = 0) : ∀ s ∈ spd ps, s % 2 = 0 := fun s hs => by
  obtain ⟨p, hp, h2⟩ := List.mem_flatMap.mp hs
  rw [List.eq_of_mem_replicate h2]
  exact h p hp
/-- a comprehension over pieces -/
theorem dP_take {ps : List (Nat × Nat)} : List.take (srcT (dP ps)).n ps = ps := by
  show List.take (dP ps).length ps = _
  rw [dP_len, List.take_length]
theorem dP_takeL {k : Nat} {ps : List (Nat × Nat)} : List.take (srcL k (dP ps)).n ps = ps := by
  show List.take (dP ps).length ps = _
  rw [dP_len, List.take_length]
section
variable {P : Program} {w : World} {K : PySem.W.Frag} {mg : Str → Option Value} {base : Heap} {C fI fL fF fBf : Addr} {fdI fdL fdF fdBf : FuncData}
theorem ok_turned {f : Addr} {fd : FuncData} (F : Fun K "_law_turned_right" "_law_turned_right" sTurned f fd) (B : Bi mg) (T : RdB K C fI) (mC : mg "Road" = some (.ref C))
    (FI : Fun K "__init__" "Road.__init__" sRInit fI fdI) (bI : L2.Binds K fdI ["self", "pieces"] [])
    (FL : Fun K "_last_speed" "Road._last_speed" sRLast fL fdL) (bL : L2.Binds K fdL ["self"] []) (mL : Meth K C "_last_speed" fL)
    (FBf : Fun K "_beats_for" "_beats_for" sBeatsFor fBf fdBf) (mBf : mg "_beats_for" = some (.ref fBf)) (bBf : L2.Binds K fdBf ["bits", "speed"] [])
    (FF' : Fun K "fetched" "Road.fetched" sFetched fF fdF) (FF : FunD K "fetched" "Road.fetched" (defArgs sFetched) (defBody sFetched) (defScope sFetched) [] [("wait", .int 0)] fF fdF) (mF : Meth K C "fetched" fF) :
    FnG P w K mg base CX0 3 f fd ["_law_pieces", "_law_trip_here"] (spOf K 2 spTurned) := by
  have GI : FnOk P w K mg base CX0 1 fI fdI ["self", "pieces"] (spOf K 2 (spRInit C)) := ok_rinit FI T
  have GF : FnOk P w K mg base CX0 2 fF fdF ["self", "begin", "size", "wait"] (spOf K 4 (spFetched C)) := ok_fetched FF' T B FL bL mL FBf mBf bBf
  refine okGH F scTurned fun cdv Ao outer s H E gA hr => have hu := hr.units; have hr2 : Room 2 _ := hr; ⟨_, pssh_cons (psh_set (i := 2) scTurned.nd rfl (Or.inl rfl) (ph_op l_add op_addA (ph_callTy l_tuple call_tuple_of (by rfl) B.tuple boot_tuple (pah_cons (ph_lc (own := [("_law_beats", 3), ("_law_speed", 4)]) (lg_tup (lg_cons lg_name (lg_cons lg_name lg_nil)) (len_cons goes_name (len_cons goes_name len_nil))) (keeps_tup (keeps_cons (keeps_name (by decide)) (keeps_cons (keeps_name (by decide)) keeps_nil mono_name) mono_name)) rfl scTurned.nd (pih_seq (ph_slice (ph_var (pv 0)) poh_none (poh_some (ph_neg (ph_c pe_int))))) (blkOk_by (own := [("_law_beats", 3), ("_law_speed", 4)]) (N := ["_law_pieces", "_law_trip_here", "_law_small", "_law_beats", "_law_speed", "_law_road", "_law_thrice", "_law_halves", "_law_at", "_law_size", "_law_waited", "_law_ended_at", "_law_some", "_law_later", "_law_due"]) (sc := defScope sTurned) (by decide +kernel)) (fun _ _ _ _ _ => pg_tup rfl (pgs_cons (pg_name (i := 3) scTurned.nd rfl (Or.inl rfl)) (pgs_cons (pg_name (i := 4) scTurned.nd rfl (Or.inl rfl)) (pgs_nil)))) (fun _ _ _ _ _ => ptsh_nil) (fun _ _ _ _ _ => ph_tup (pah_cons (ph_op l_add op_addA (ph_c pe_int) (ph_op l_div op_fdiv (ph_var (pv 3)) (ph_c pe_int))) (pah_cons (ph_op l_mul op_mulA (ph_op l_div op_fdiv (ph_var (pv 4)) (ph_c pe_int)) (ph_c pe_int)) pah_nil)))) pah_nil)) (ph_tup (pah_cons (ph_tup (pah_cons (ph_c pe_int) (pah_cons (ph_c pe_int) pah_nil))) pah_nil))))
    (pssh_cons (psh_set (i := 5) scTurned.nd rfl (Or.inl rfl) (ph_make T.make GI hr2 (by rfl) mC bI (pah_cons (ph_callTy l_tuple call_tuple_of (by rfl) B.tuple boot_tuple (pah_cons (ph_lc (own := [("_law_beats", 3), ("_law_speed", 4)]) (lg_tup (lg_cons lg_name (lg_cons lg_name lg_nil)) (len_cons goes_name (len_cons goes_name len_nil))) (keeps_tup (keeps_cons (keeps_name (by decide)) (keeps_cons (keeps_name (by decide)) keeps_nil mono_name) mono_name)) rfl scTurned.nd (pih_seq (ph_var (pv 2))) (blkOk_by (own := [("_law_beats", 3), ("_law_speed", 4)]) (N := ["_law_pieces", "_law_trip_here", "_law_small", "_law_beats", "_law_speed", "_law_road", "_law_thrice", "_law_halves", "_law_at", "_law_size", "_law_waited", "_law_ended_at", "_law_some", "_law_later", "_law_due"]) (sc := defScope sTurned) (by decide +kernel)) (fun _ _ _ _ _ => pg_tup rfl (pgs_cons (pg_name (i := 3) scTurned.nd rfl (Or.inl rfl)) (pgs_cons (pg_name (i := 4) scTurned.nd rfl (Or.inl rfl)) (pgs_nil)))) (fun _ _ _ _ _ => ptsh_nil) (fun _ _ _ _ _ => ph_tup (pah_cons (ph_callB l_min (call_minA rfl) (by rfl) B.min (by decide +kernel) (pah_cons (ph_c pe_int) (pah_cons (ph_var (pv 3)) pah_nil))) (pah_cons (ph_var (pv 4)) pah_nil)))) pah_nil)) pah_nil)))
    (pssh_cons (psh_set (i := 6) scTurned.nd rfl (Or.inl rfl) (ph_make T.make GI hr2 (by rfl) mC bI (pah_cons (ph_callTy l_tuple call_tuple_of (by rfl) B.tuple boot_tuple (pah_cons (ph_lc (own := [("_law_beats", 3), ("_law_speed", 4)]) (lg_tup (lg_cons lg_name (lg_cons lg_name lg_nil)) (len_cons goes_name (len_cons goes_name len_nil))) (keeps_tup (keeps_cons (keeps_name (by decide)) (keeps_cons (keeps_name (by decide)) keeps_nil mono_name) mono_name)) rfl scTurned.nd (pih_seq (ph_fld T.cl T.np (ph_var (pv 5)) rfl)) (blkOk_by (own := [("_law_beats", 3), ("_law_speed", 4)]) (N := ["_law_pieces", "_law_trip_here", "_law_small", "_law_beats", "_law_speed", "_law_road", "_law_thrice", "_law_halves", "_law_at", "_law_size", "_law_waited", "_law_ended_at", "_law_some", "_law_later", "_law_due"]) (sc := defScope sTurned) (by decide +kernel)) (fun _ _ _ _ _ => pg_tup rfl (pgs_cons (pg_name (i := 3) scTurned.nd rfl (Or.inl rfl)) (pgs_cons (pg_name (i := 4) scTurned.nd rfl (Or.inl rfl)) (pgs_nil)))) (fun _ _ _ _ _ => ptsh_nil) (fun _ _ _ _ _ => ph_tup (pah_cons (ph_var (pv 3)) (pah_cons (ph_op l_mul op_mulA (ph_c pe_int) (ph_var (pv 4))) pah_nil)))) pah_nil)) pah_nil)))
    (pssh_cons (psh_set (i := 7) scTurned.nd rfl (Or.inl rfl) (ph_make T.make GI hr2 (by rfl) mC bI (pah_cons (ph_callTy l_tuple call_tuple_of (by rfl) B.tuple boot_tuple (pah_cons (ph_lc (own := [("_law_beats", 3), ("_law_speed", 4)]) (lg_tup (lg_cons lg_name (lg_cons lg_name lg_nil)) (len_cons goes_name (len_cons goes_name len_nil))) (keeps_tup (keeps_cons (keeps_name (by decide)) (keeps_cons (keeps_name (by decide)) keeps_nil mono_name) mono_name)) rfl scTurned.nd (pih_seq (ph_fld T.cl T.np (ph_var (pv 5)) rfl)) (blkOk_by (own := [("_law_beats", 3), ("_law_speed", 4)]) (N := ["_law_pieces", "_law_trip_here", "_law_small", "_law_beats", "_law_speed", "_law_road", "_law_thrice", "_law_halves", "_law_at", "_law_size", "_law_waited", "_law_ended_at", "_law_some", "_law_later", "_law_due"]) (sc := defScope sTurned) (by decide +kernel)) (fun _ _ _ _ _ => pg_tup rfl (pgs_cons (pg_name (i := 3) scTurned.nd rfl (Or.inl rfl)) (pgs_cons (pg_name (i := 4) scTurned.nd rfl (Or.inl rfl)) (pgs_nil)))) (fun _ _ _ _ _ => ptsh_nil) (fun _ _ _ _ _ => ph_tup (pah_cons (ph_op l_mul op_mulA (ph_c pe_int) (ph_var (pv 3))) (pah_cons (ph_op l_div op_fdiv (ph_var (pv 4)) (ph_c pe_int)) pah_nil)))) pah_nil)) pah_nil)))
    (pssh_cons (psh_for (lg_tup (lg_cons lg_name (lg_cons lg_name (lg_cons lg_name (lg_cons lg_name lg_nil)))) (len_cons goes_name (len_cons goes_name (len_cons goes_name (len_cons goes_name len_nil))))) PassesOwn.never rfl (pih_seq (ph_var (pv 1))) (pg_tup rfl (pgs_cons (pg_name (i := 8) scTurned.nd rfl (Or.inl rfl)) (pgs_cons (pg_name (i := 9) scTurned.nd rfl (Or.inl rfl)) (pgs_cons (pg_name (i := 10) scTurned.nd rfl (Or.inl rfl)) (pgs_cons (pg_name (i := 11) scTurned.nd rfl (Or.inl rfl)) (pgs_nil)))))) (pssh_cons (psh_par (i := 12) (j := 13) rfl scTurned.nd rfl rfl (by decide) rfl rfl (pah_cons (ph_op l_add op_addA (ph_c pe_int) (ph_op l_mod op_mod (ph_var (pv 9)) (ph_c pe_int))) (pah_cons (ph_op l_mod op_mod (ph_var (pv 10)) (ph_c pe_int)) pah_nil)) rfl)
      (pssh_cons (psh_set (i := 14) scTurned.nd rfl (Or.inl rfl) (ph_methK (ph_var (pv 5)) T.cl mF GF hr2 kwd_app (fetched_binds FF).2 (pah_cons (ph_op l_mod op_mod (ph_var (pv 8)) (ph_c pe_int)) (pah_cons (ph_var (pv 12)) pah_nil)) (pkh_cons (ph_var (pv 13)) pkh_nil)))
      (pssh_cons (psh_if (pth_cmp l_ne (op_neA hu) (ph_methK (ph_var (pv 6)) T.cl mF GF hr2 kwd_app (fetched_binds FF).2 (pah_cons (ph_op l_mod op_mod (ph_var (pv 8)) (ph_c pe_int)) (pah_cons (ph_op l_mul op_mulA (ph_c pe_int) (ph_var (pv 12))) pah_nil)) (pkh_cons (ph_var (pv 13)) pkh_nil)) (ph_var (pv 14)) (nomark _)) (pssh_one (psh_ret (ph_c pe_bl))) (pssh_nil))
      (pssh_one (psh_if (pth_cmp l_ne (op_neA hu) (ph_op l_div op_fdiv (ph_op l_add op_addA (ph_methK (ph_var (pv 7)) T.cl mF GF hr2 kwd_app (fetched_binds FF).2 (pah_cons (ph_op l_mul op_mulA (ph_c pe_int) (ph_op l_mod op_mod (ph_var (pv 8)) (ph_c pe_int))) (pah_cons (ph_var (pv 12)) pah_nil)) (pkh_cons (ph_op l_mul op_mulA (ph_c pe_int) (ph_var (pv 13))) pkh_nil)) (ph_c pe_int)) (ph_c pe_int)) (ph_var (pv 14)) (nomark _)) (pssh_one (psh_ret (ph_c pe_bl))) (pssh_nil)))))))
    (pssh_one (psh_ret (ph_c pe_bl))))))), ?_⟩
  rintro ds A Q ⟨j, ps, l, ts, rfl, hj, gp, hts, q⟩
  have ez : sizeLine = 16777216 := sizeLine_eq
  obtain ⟨r, z, rfl, _⟩ := gp.good.ends
  have hrl : r.length = 11 := by have h := gp.few; rw [List.length_append, List.length_singleton] at h; omega
  have hr1 : ∀ p ∈ r, p.1 ≤ 50 ∧ p.2 ≤ 1000 := fun p hp => ⟨gp.ok p (List.mem_append_left _ hp), (gp.good.ok p (List.mem_append_left _ hp)).2.2⟩
  have hrd := rdP_ok fun p hp => (hr1 p hp).2
  walk_at "w"
  rw [dP_app, show dP [z] = [dPc z] from rfl, cutD_last]
  refine ⟨fun n acc A' => acc = dP ((r.take n).map fun p => (1 + p.1 / 2, p.2 / 6 * 2)) ∧ A' = A, by show (dP r).length ≤ 100000; rw [dP_len]; omega, ⟨rfl, rfl⟩, fun _ _ _ _ _ => trivial, ?_, ?_⟩
  · rintro n d acc A' hn hd ⟨rfl, rfl⟩
    obtain ⟨p, hp, rfl⟩ := dP_at hd
    have hp1 := hr1 p (List.mem_of_getElem? hp)
    walk_at "w"
    refine .t ?_
    walk_at "w"
    refine ⟨⟨by decide, by decide⟩, ?_⟩
    walk_at "w"
    refine ⟨⟨by decide, by decide⟩, ?_⟩
    walk_at "w"
    refine ⟨.inl ⟨by omega, by omega⟩, ?_⟩
    walk_at "w"
    refine ⟨?_, rfl⟩
    rw [List.take_add_one, hp, Option.toList_some, List.map_append, dP_app]
    show _ = _ ++ [D.tup [.v (.int ((1 + p.1 / 2 : Nat) : Int)), .v (.int ((p.2 / 6 * 2 : Nat) : Int))]]
    rw [show ((1 + p.1 / 2 : Nat) : Int) = 1 + (p.1 : Int) / 2 by omega, show ((p.2 / 6 * 2 : Nat) : Int) = (p.2 : Int) / 6 * 2 by omega]
  rintro acc A' ⟨rfl, rfl⟩
  intro j1 A1 n1
  rw [dP_take] at n1
  walk_at "w"
  refine ⟨_, n1.get, ?_⟩
  walk_at "w"
  refine ⟨by rw [dP_len, List.length_map]; show r.length + 1 ≤ sizeLine; omega, ?_⟩
  have e1 : dP (r.map fun p => (1 + p.1 / 2, p.2 / 6 * 2)) ++ [D.tup [.v (.int 9), .v (.int 2)]] = dP (smP r) := by
    unfold smP
    rw [dP_app]
    rfl
  have hsl : (smP r).length = 12 := by unfold smP; rw [List.length_append, List.length_map, hrl]; rfl
  have hj1 := n1.old hj
  have kp1 : Kp [] A' A1 := Kp.of_new n1
  clear n1
  walk_at "w"
  rw [e1]
  refine ⟨fun n acc A' => acc = dP (((smP r).take n).map fun p => (min 25 p.1, p.2)) ∧ A' = A1, by show (dP (smP r)).length ≤ 100000; rw [dP_len]; omega, ⟨rfl, rfl⟩, fun _ _ _ _ _ => trivial, ?_, ?_⟩
  · rintro n d acc A' hn hd ⟨rfl, rfl⟩
    obtain ⟨p, hp, rfl⟩ := dP_at hd
    walk_at "w"
    refine .t ?_
    walk_at "w"
    refine ⟨?_, rfl⟩
    rw [List.take_add_one, hp, Option.toList_some, List.map_append, dP_app]
    show _ = _ ++ [D.tup [.v (.int ((min 25 p.1 : Nat) : Int)), .v (.int (p.2 : Nat))]]
    rw [show ((min 25 p.1 : Nat) : Int) = min 25 (p.1 : Int) by omega]
  rintro acc A' ⟨rfl, rfl⟩
  intro j2 A2 n2
  rw [dP_take] at n2
  have g2 : A2[j2]? = some (.lst (dP (rdP r))) := n2.get
  have hj2 := n2.old hj1
  have kp2 := kp1.new n2
  have hrp : (rdP r).length = 12 := by unfold rdP; rw [List.length_map]; exact hsl
  clear n2 hj1 kp1
  walk_at "w"
  refine ⟨_, g2, ?_⟩
  walk_at "w"
  intro x A3' n3'
  refine made_road n3' fun A3 n3 => ⟨rfl, ?_⟩
  have hx3 : RoadAt C A3 x (rdP r) := n3.get
  have hj3 := n3.old hj2
  have kp3 := kp2.new n3
  clear n3 n3' hj2 kp2 g2
  walk_at "w"
  refine ⟨_, _, hx3, rfl, ?_⟩
  walk_at "w"
  refine ⟨fun n acc A' => acc = dP (thr ((rdP r).take n)) ∧ A' = A3, by show (dP (rdP r)).length ≤ 100000; rw [dP_len]; omega, ⟨rfl, rfl⟩, fun _ _ _ _ _ => trivial, ?_, ?_⟩
  · rintro n d acc A' hn hd ⟨rfl, rfl⟩
    obtain ⟨p, hp, rfl⟩ := dP_at hd
    have hp1 := hrd p (List.mem_of_getElem? hp)
    walk_at "w"
    refine .t ?_
    walk_at "w"
    refine ⟨.inl ⟨by omega, by omega⟩, ?_⟩
    walk_at "w"
    refine ⟨?_, rfl⟩
    rw [List.take_add_one, hp, Option.toList_some]
    unfold thr
    rw [List.map_append, dP_app]
    show _ = _ ++ [D.tup [.v (.int (p.1 : Nat)), .v (.int ((3 * p.2 : Nat) : Int))]]
    rw [show ((3 * p.2 : Nat) : Int) = 3 * (p.2 : Int) by push_cast; rfl]
  rintro acc A' ⟨rfl, rfl⟩
  intro j4 A4 n4
  rw [dP_take] at n4
  walk_at "w"
  refine ⟨_, n4.get, ?_⟩
  walk_at "w"
  intro x3 A5' n5'
  refine made_road n5' fun A5 n5 => ⟨rfl, ?_⟩
  have hy5 : RoadAt C A5 x3 (thr (rdP r)) := n5.get
  have hx5 : RoadAt C A5 x (rdP r) := n5.old (n4.old hx3)
  have hj5 := n5.old (n4.old hj3)
  have kp5 := (kp3.new n4).new n5
  clear n5 n5' n4 hx3 hj3 kp3
  walk_at "w"
  refine ⟨_, _, hx5, rfl, ?_⟩
  walk_at "w"
  refine ⟨fun n acc A' => acc = dP (hlv ((rdP r).take n)) ∧ A' = A5, by show (dP (rdP r)).length ≤ 100000; rw [dP_len]; omega, ⟨rfl, rfl⟩, fun _ _ _ _ _ => trivial, ?_, ?_⟩
  · rintro n d acc A' hn hd ⟨rfl, rfl⟩
    obtain ⟨p, hp, rfl⟩ := dP_at hd
    walk_at "w"
    refine .t ?_
    walk_at "w"
    refine ⟨.inl ⟨by decide, by decide⟩, ?_⟩
    walk_at "w"
    refine ⟨⟨by decide, by decide⟩, ?_⟩
    walk_at "w"
    refine ⟨?_, rfl⟩
    rw [List.take_add_one, hp, Option.toList_some]
    unfold hlv
    rw [List.map_append, dP_app]
    show _ = _ ++ [D.tup [.v (.int ((2 * p.1 : Nat) : Int)), .v (.int ((p.2 / 2 : Nat) : Int))]]
    rw [show ((2 * p.1 : Nat) : Int) = 2 * (p.1 : Int) by push_cast; rfl, show ((p.2 / 2 : Nat) : Int) = (p.2 : Int) / 2 by omega]
  rintro acc A' ⟨rfl, rfl⟩
  intro j6 A6 n6
  rw [dP_take] at n6
  walk_at "w"
  refine ⟨_, n6.get, ?_⟩
  walk_at "w"
  intro x2 A7' n7'
  refine made_road n7' fun A7 n7 => ⟨rfl, ?_⟩
  have hz7 : RoadAt C A7 x2 (hlv (rdP r)) := n7.get
  have hy7 : RoadAt C A7 x3 (thr (rdP r)) := n7.old (n6.old hy5)
  have hx7 : RoadAt C A7 x (rdP r) := n7.old (n6.old hx5)
  have hj7 := n7.old (n6.old hj5)
  have kp7 := (kp5.new n6).new n7
  clear n7 n7' n6 hx5 hy5 hj5 kp5
  have er : Ends1 (rdP r) 2 := ⟨_, (9, 2), rdP_ends r, rfl⟩
  have et : Ends1 (thr (rdP r)) 6 := ⟨_, (9, 6), by rw [rdP_ends]; unfold thr; rw [List.map_append]; rfl, rfl⟩
  have eh : Ends1 (hlv (rdP r)) 1 := ⟨_, (18, 1), by rw [rdP_ends]; unfold hlv; rw [List.map_append]; rfl, rfl⟩
  have sr : ∀ p ∈ rdP r, p.2 ≤ 100000 := fun p hp => by have := (hrd p hp).1; omega
  have st : ∀ p ∈ thr (rdP r), p.2 ≤ 100000 := fun p hp => by
    obtain ⟨u, hu, rfl⟩ := List.mem_map.mp hp
    have := (hrd u hu).1
    show 3 * u.2 ≤ 100000
    omega
  have sh : ∀ p ∈ hlv (rdP r), p.2 ≤ 100000 := fun p hp => by
    obtain ⟨u, hu, rfl⟩ := List.mem_map.mp hp
    have := (hrd u hu).1
    show u.2 / 2 ≤ 100000
    omega
  walk_at "w"
  refine ⟨_, hj7, fun i σ A' => ∃ v3 v4 v8 v9 v10 v11 v12 v13 v14, σ = [some (.tup (dP r ++ [dPc z])), some (.ptr j), some (.tup (dP (smP r))), v3, v4, some (.ptr x), some (.ptr x3), some (.ptr x2), v8, v9, v10, v11, v12, v13, v14] ∧ A' = A7, ⟨_, _, _, _, _, _, _, _, _, rfl, rfl⟩, ?_, ?_, ?_⟩
  · rintro i σ A' _ ⟨_, _, _, _, _, _, _, _, _, _, rfl⟩
    exact hj7
  · rintro i d σ A' hi hd ⟨v3, v4, v8, v9, v10, v11, v12, v13, v14, rfl, rfl⟩
    obtain ⟨a, s, w, e, ht, rfl⟩ := dT_at hd
    walk_at "w"
    refine ⟨by decide, ?_⟩
    walk_at "w"
    refine ⟨by decide, ?_⟩
    walk_at "w"
    refine ⟨_, hx7, rfl, ?_⟩
    walk_at "w"
    refine ⟨by decide, ?_⟩
    have c1 : ((a % 300 : Nat) : Int) = (a : Int) % 300 := by omega
    have c2 : ((1 + s % 3000 : Nat) : Int) = 1 + (s : Int) % 3000 := by omega
    have c3 : ((w % 200 : Nat) : Int) = (w : Int) % 200 := by omega
    walk_at "w"
    rw [← c1, ← c2, ← c3]
    refine ⟨x, rdP r, 2, a % 300, 1 + s % 3000, w % 200, rfl, hx7, er, by decide, sr, by omega, fun d hd => ?_⟩
    walk_at "w"
    refine ⟨_, hy7, rfl, ?_⟩
    walk_at "w"
    refine ⟨by decide, ?_⟩
    walk_at "w"
    refine ⟨.inl ⟨by omega, by omega⟩, ?_⟩
    walk_at "w"
    rw [← c1]
    refine ⟨x3, thr (rdP r), 6, a % 300, 3 * (1 + s % 3000), w % 200, by push_cast; rfl, hy7, et, by decide, st, by omega, fun d3 hd3 => ?_⟩
    rw [spd_thr] at hd3
    cases hd3.uniq hd.thr
    walk_at "w"
    refine .n (fun c => absurd rfl c) (fun _ => ?_)
    walk_at "w"
    refine ⟨_, hz7, rfl, ?_⟩
    walk_at "w"
    refine ⟨by decide, ?_⟩
    walk_at "w"
    refine ⟨.inl ⟨by omega, by omega⟩, ?_⟩
    walk_at "w"
    refine ⟨.inl ⟨by omega, by omega⟩, ?_⟩
    walk_at "w"
    rw [← c1]
    refine ⟨x2, hlv (rdP r), 1, 2 * (a % 300), 1 + s % 3000, 2 * (w % 200), by push_cast; rfl, hz7, eh, by decide, sh, by omega, fun e4 h4 => ?_⟩
    rw [spd_hlv, show 2 * (a % 300) + 2 * (w % 200) = 2 * (a % 300 + w % 200) by omega] at h4
    have hdup : (e4 + 1) / 2 = d := IsEnd.dup (l := 2) (spd_even fun p hp => (hrd p hp).2) rfl hd h4
    walk_at "w"
    refine ⟨⟨by decide, by decide⟩, ?_⟩
    walk_at "w"
    refine .n (fun c => absurd (show ((e4 : Int) + 1) / 2 = (d : Int) by omega) c) (fun _ => ?_)
    exact ⟨_, _, _, _, _, _, _, _, _, rfl, rfl⟩
  · rintro σ A' ⟨v3, v4, v8, v9, v10, v11, v12, v13, v14, rfl, rfl⟩
    exact q _ kp7
end
end Rp

namespace Rp
open PySem PySem.Spec PyProof.Rows L2
local macro_rules | `(tactic| walk_at "w") => `(tactic| (conv => whnf))
abbrev sLaw : Stmt := topS 13
theorem scLaw : FnScope ["_law_script", "_law_deck_here", "_law_made", "_law_turn", "_law_pieces", "_law_road", "_law_trip_here", "_law_speeds", "_law_beat"] ["_law_script"] (defScope sLaw) :=
  ⟨rfl, rfl, rfl, by decide +kernel, rfl, by decide +kernel, by decide +kernel⟩
structure Asked (C : Addr) (M : List Nat) (A : OH) (d : D) : Prop where
  ex : ∃ x j ps l ts, d = .tup [.tup (dP ps), .ptr x, .ptr j] ∧ RoadAt C A x ps ∧ A[j]? = some (.lst (dT ts)) ∧ x ∉ M ∧ j ∉ M ∧ GreatP ps l ∧ TripOk (spd ps) l ts ∧ ts ≠ []
theorem Asked.kp {C : Addr} {M N : List Nat} {A A' : OH} {d : D} (h : Asked C M A d) (kp : Kp N A A') (hm : ∀ i ∈ N, i ∈ M) : Asked C M A' d := by
  obtain ⟨x, j, ps, l, ts, rfl, h1, h2, h3, h4, h5⟩ := h.ex
  exact ⟨x, j, ps, l, ts, rfl, kp _ _ (fun z => h3 (hm _ z)) h1, kp _ _ (fun z => h4 (hm _ z)) h2, h3, h4, h5⟩
theorem Kp.of_put {A A' : OH} {k : Nat} {o : O} (p : Put A k o A') : Kp [k] A A' := fun i u nm h => p.old (fun z => nm (by rw [z]; exact List.mem_cons_self)) h
theorem spd_le' {ps : List (Nat × Nat)} {l : Nat} (h : GreatP ps l) : ∀ s ∈ spd ps, s ≤ 1000 := fun s hs => by
  obtain ⟨p, hp, h2⟩ := List.mem_flatMap.mp hs
  rw [List.eq_of_mem_replicate h2]
  exact (h.good.ok p hp).2.2
theorem sumT_whole (L : List Nat) (l : Nat) : sumT L l 0 L.length = L.sum := by
  rw [sumT_low (Nat.le_refl _), sumC_all (Nat.le_refl _), List.drop_zero]
section
variable {P : Program} {w : World} {K : PySem.W.Frag} {mg : Str → Option Value} {base : Heap} {C fI fL fA fO fF fBf fE fH fK fN fDk fDr fG fT fR fU fV : Addr} {fdI fdL fdA fdO fdF fdBf fdE fdH fdK fdN fdDk fdDr fdG fdT fdR fdU fdV : FuncData}
theorem ok_law {f : Addr} {fd : FuncData} (F : Fun K "law" "law" sLaw f fd) (B : Bi mg) (T : RdB K C fI) (Z : EqK K C fE) (Z2 : PySem.W.findIn K (.ref C) "__len__" = some (some (.ref fN)) ∧ PySem.W.isFn K (.ref fN) = true) (mC : mg "Road" = some (.ref C))
    (FI : Fun K "__init__" "Road.__init__" sRInit fI fdI) (bI : L2.Binds K fdI ["self", "pieces"] [])
    (FL : Fun K "_last_speed" "Road._last_speed" sRLast fL fdL) (bL : L2.Binds K fdL ["self"] []) (mL : Meth K C "_last_speed" fL)
    (FA : Fun K "speed_at" "Road.speed_at" sSpeedAt fA fdA) (bA : L2.Binds K fdA ["self", "beat"] []) (mA : Meth K C "speed_at" fA)
    (FO : Fun K "sum_of" "Road.sum_of" sSumOf fO fdO) (bO : L2.Binds K fdO ["self", "first", "last"] []) (mO : Meth K C "sum_of" fO)
    (FBf : Fun K "_beats_for" "_beats_for" sBeatsFor fBf fdBf) (mBf : mg "_beats_for" = some (.ref fBf)) (bBf : L2.Binds K fdBf ["bits", "speed"] [])
    (FF' : Fun K "fetched" "Road.fetched" sFetched fF fdF) (FF : FunD K "fetched" "Road.fetched" (defArgs sFetched) (defBody sFetched) (defScope sFetched) [] [("wait", .int 0)] fF fdF) (mF : Meth K C "fetched" fF)
    (FN : Fun K "__len__" "Road.__len__" sRLen fN fdN) (bN : L2.Binds K fdN ["self"] [])
    (FE : Fun K "__eq__" "Road.__eq__" sREq fE fdE) (bE : L2.Binds K fdE ["self", "other"] []) (FH : Fun K "_changes" "_changes" sChanges fH fdH) (mH : mg "_changes" = some (.ref fH)) (bH : L2.Binds K fdH ["pieces"] [])
    (FK : Fun K "known" "known" sKnown fK fdK) (mK : mg "known" = some (.ref fK)) (bK : L2.Binds K fdK ["speeds"] [])
    (FD : Fun K "_law_deck" "_law_deck" sDeck fDk fdDk) (mD : mg "_law_deck" = some (.ref fDk)) (bD : L2.Binds K fdDk ["_law_script"] [])
    (FDr : Fun K "_law_draw" "_law_draw" sDraw fDr fdDr) (mDr : mg "_law_draw" = some (.ref fDr)) (bDr : L2.Binds K fdDr ["_law_deck_here", "_law_ways"] [])
    (FG : Fun K "_law_great" "_law_great" sGreat fG fdG) (mG : mg "_law_great" = some (.ref fG)) (bG : L2.Binds K fdG ["_law_deck_here"] [])
    (FT : Fun K "_law_trip" "_law_trip" sTrip fT fdT) (mT : mg "_law_trip" = some (.ref fT)) (bT : L2.Binds K fdT ["_law_deck_here", "_law_road"] [])
    (FR : Fun K "_law_trip_right" "_law_trip_right" sTripRight fR fdR) (mR : mg "_law_trip_right" = some (.ref fR)) (bR : L2.Binds K fdR ["_law_road", "_law_trip_here"] [])
    (FU : Fun K "_law_together_right" "_law_together_right" sTogether fU fdU) (mU : mg "_law_together_right" = some (.ref fU)) (bU : L2.Binds K fdU ["_law_road", "_law_trip_here"] [])
    (FV : Fun K "_law_turned_right" "_law_turned_right" sTurned fV fdV) (mV : mg "_law_turned_right" = some (.ref fV)) (bV : L2.Binds K fdV ["_law_pieces", "_law_trip_here"] []) :
    FnG P w K mg base CX0 4 f fd ["_law_script"] (spOf K 1 spLawH) := by
  have GI : FnOk P w K mg base CX0 1 fI fdI ["self", "pieces"] (spOf K 2 (spRInit C)) := ok_rinit FI T
  have GA : FnOk P w K mg base CX0 2 fA fdA ["self", "beat"] (spOf K 2 (spSpeedAt C)) := ok_speedat FA T FL bL mL
  have GO : FnOk P w K mg base CX0 2 fO fdO ["self", "first", "last"] (spOf K 3 (spSumOf C)) := ok_sumof FO T B FL bL mL
  have GN : FnOk P w K mg base CX0 1 fN fdN ["self"] (spOf K 1 (spRLen C)) := ok_rlen FN T B
  have GE : FnOk P w K mg base CX0 2 fE fdE ["self", "other"] (spOf K 2 (spREq K C)) := ok_req FE T B mC FH mH bH
  have GK : FnOk P w K mg base CX0 3 fK fdK ["speeds"] (spOf K 1 (spKnown C)) := ok_known FK T B mC FI bI
  have GD : FnG P w K mg base CX0 1 fDk fdDk ["_law_script"] (spOf K 1 spDeck) := ok_deck FD B
  have GG : FnG P w K mg base CX0 2 fG fdG ["_law_deck_here"] (spOf K 1 spGreat) := ok_great FG B FDr mDr bDr
  have GT : FnG P w K mg base CX0 3 fT fdT ["_law_deck_here", "_law_road"] (spOf K 2 (spTrip C)) := ok_trip FT B T FDr mDr bDr FL bL mL FBf mBf bBf FF' FF mF
  have GR : FnG P w K mg base CX0 3 fR fdR ["_law_road", "_law_trip_here"] (spOf K 2 (spTripRight C)) := ok_tripright FR B T FL bL mL FO bO mO FBf mBf bBf FF' FF mF
  have GU : FnG P w K mg base CX0 3 fU fdU ["_law_road", "_law_trip_here"] (spOf K 2 (spTogether C)) := ok_together FU B T FL bL mL FO bO mO FBf mBf bBf FF' FF mF
  have GV : FnG P w K mg base CX0 3 fV fdV ["_law_pieces", "_law_trip_here"] (spOf K 2 spTurned) := ok_turned FV B T mC FI bI FL bL mL FBf mBf bBf FF' FF mF
  refine okGH F scLaw fun cdv Ao outer s H E gA hr => have hu := hr.units; have hr1 : Room 1 _ := hr.mono (by decide); have hr2 : Room 2 _ := hr.mono (by decide); have hr3 : Room 3 _ := hr.mono (by decide); ⟨_, pssh_cons (psh_set (i := 1) scLaw.nd rfl (Or.inl rfl) (ph_call GD gA hr1 (by rfl) mD FD.kp bD (pah_cons (ph_var (pv 0)) pah_nil)))
    (pssh_cons (psh_set (i := 2) scLaw.nd rfl (Or.inl rfl) (ph_lst (pah_nil)))
    (pssh_cons (psh_for lg_name PassesOwn.never rfl (pih_range1 (by rfl) B.range (pah_cons (ph_c pe_int) pah_nil)) (pg_name (i := 3) scLaw.nd rfl (Or.inl rfl)) (pssh_cons (psh_set (i := 4) scLaw.nd rfl (Or.inl rfl) (ph_call GG gA hr2 (by rfl) mG FG.kp bG (pah_cons (ph_var (pv 1)) pah_nil)))
      (pssh_cons (psh_set (i := 5) scLaw.nd rfl (Or.inr rfl) (ph_make T.make GI hr2 (by rfl) mC bI (pah_cons (ph_var (pv 4)) pah_nil)))
      (pssh_one (psh_expr (ph_app (ph_var (pv 2)) (pah_cons (ph_tup (pah_cons (ph_var (pv 4)) (pah_cons (ph_var (pv 5)) (pah_cons (ph_call GT gA hr3 (by rfl) mT FT.kp bT (pah_cons (ph_var (pv 1)) (pah_cons (ph_var (pv 5)) pah_nil))) pah_nil)))) pah_nil)))))))
    (pssh_cons (psh_for (lg_tup (lg_cons lg_name (lg_cons lg_name (lg_cons lg_name lg_nil))) (len_cons goes_name (len_cons goes_name (len_cons goes_name len_nil)))) PassesOwn.never rfl (pih_seq (ph_op l_add op_addA (ph_var (pv 2)) (ph_step (ph_var (pv 2)) (poh_some (ph_neg (ph_c pe_int)))))) (pg_tup rfl (pgs_cons (pg_name (i := 4) scLaw.nd rfl (Or.inl rfl)) (pgs_cons (pg_name (i := 5) scLaw.nd rfl (Or.inr rfl)) (pgs_cons (pg_name (i := 6) scLaw.nd rfl (Or.inl rfl)) (pgs_nil))))) (pssh_cons (psh_if (PW.pt (pwh_or (pth_not (pth_val (ph_call GR gA hr3 (by rfl) mR FR.kp bR (pah_cons (ph_var (pv 5)) (pah_cons (ph_var (pv 6)) pah_nil))))) (pwh_or1 (pth_not (pth_val (ph_call GU gA hr3 (by rfl) mU FU.kp bU (pah_cons (ph_var (pv 5)) (pah_cons (ph_var (pv 6)) pah_nil)))))))) (pssh_one (psh_ret (ph_c pe_bl))) (pssh_nil))
      (pssh_cons (psh_if (pth_not (pth_val (ph_call GV gA hr3 (by rfl) mV FV.kp bV (pah_cons (ph_var (pv 4)) (pah_cons (ph_var (pv 6)) pah_nil))))) (pssh_one (psh_ret (ph_c pe_bl))) (pssh_nil))
      (pssh_cons (psh_setLc (i := 7) (own := [("_law_beat", 8)]) lg_name (keeps_name (by decide)) rfl scLaw.nd rfl rfl (sw_true rfl rfl rfl (by decide +kernel)) (pih_range1 (by rfl) B.range (pah_cons (ph_callB l_lenI (call_lenI (E := fun _ _ _ => False) GN Z2.1 Z2.2 bN pass0 hr2) (by rfl) B.len PySem.boot_len (pah_cons (ph_var (pv 5)) pah_nil)) pah_nil)) (blkOk_by (own := [("_law_beat", 8)]) (N := ["_law_script", "_law_deck_here", "_law_made", "_law_turn", "_law_pieces", "_law_road", "_law_trip_here", "_law_speeds", "_law_beat"]) (sc := defScope sLaw) (by decide +kernel)) (fun _ _ _ _ _ => pg_name (i := 8) scLaw.nd rfl (Or.inl rfl)) (fun _ _ _ _ _ => ptsh_nil) (fun _ _ _ _ _ => ph_meth (ph_var (pv 5)) T.cl mA GA hr2 bA (pah_cons (ph_var (pv 8)) pah_nil)))
      (pssh_one (psh_if (PW.pt (pwh_or (pth_not (pth_cmp l_eqO (op_eqO Z GE bE hr2) (ph_callO GK hr3 (by rfl) mK FK.kp bK (pah_cons (ph_callTy l_tuple call_tuple_of (by rfl) B.tuple boot_tuple (pah_cons (ph_var (pv 7)) pah_nil)) pah_nil)) (ph_var (pv 5)) (nomark _))) (pwh_or (pth_cmp l_ne (op_neA hu) (ph_callB l_sum (call_sumA rfl) (by rfl) B.sum (by decide +kernel) (pah_cons (ph_var (pv 7)) pah_nil)) (ph_meth (ph_var (pv 5)) T.cl mO GO hr2 bO (pah_cons (ph_c pe_int) (pah_cons (ph_callB l_lenI (call_lenI (E := fun _ _ _ => False) GN Z2.1 Z2.2 bN pass0 hr2) (by rfl) B.len PySem.boot_len (pah_cons (ph_var (pv 5)) pah_nil)) pah_nil))) (nomark _)) (pwh_or1 (pth_cmp l_ne (op_neA hu) (ph_fld T.cl T.np (ph_var (pv 5)) rfl) (ph_var (pv 4)) (nomark _)))))) (pssh_one (psh_ret (ph_c pe_bl))) (pssh_nil)))))))
    (pssh_one (psh_ret (ph_c pe_bl)))))), ?_⟩
  rintro ds A Q ⟨ns, rfl, hn, q⟩
  walk_at "w"
  refine ⟨ns, rfl, hn, fun k c A1 D1 kp1 => ?_⟩
  walk_at "w"
  intro a A2 n2
  walk_at "w"
  refine ⟨⟨by decide, by decide⟩, ?_⟩
  have ak : a ∉ [k, c] := fun z => by have := D1.lt _ z; have := n2.eq; omega
  have D2 := D1.new n2
  have ha2 := n2.get
  clear D1 kp1 n2
  have kM : ∀ i ∈ [k, c], i ∈ [k, c, a] := fun i hi => by simp at hi ⊢; rcases hi with rfl | rfl <;> simp
  have aM : ∀ i ∈ [a], i ∈ [k, c, a] := fun i hi => by simp at hi ⊢; simp [hi]
  have oM : ∀ i ∈ ([] : List Nat), i ∈ [k, c, a] := fun _ z => nomatch z
  refine ⟨fun i σ A' => ∃ v3 v4 v5 v6 v7 v8 ds, σ = [some (.scr ns), some (.ptr k), some (.ptr a), v3, v4, v5, v6, v7, v8] ∧ DeckAt A' k c ∧ A'[a]? = some (.lst ds) ∧ ds.length ≤ i ∧ ∀ d ∈ ds, Asked C [k, c, a] A' d,
    ⟨none, none, none, none, none, none, [], rfl, D2, ha2, Nat.le_refl _, fun _ z => nomatch z⟩, fun _ _ _ _ _ => trivial, ?_, ?_⟩
  · rintro i d σ A1 hi hd ⟨v3, v4, v5, v6, v7, v8, ds, rfl, D1, ha1, hlen, hA⟩
    replace hi : i < 2 := hi
    cases Option.some.inj hd
    walk_at "w"
    refine ⟨k, c, rfl, D1, fun ps l A2 gp D2 kp2 => ?_⟩
    have ha2 := kp2 _ _ ak ha1
    have hA2 : ∀ d ∈ ds, Asked C [k, c, a] A2 d := fun d hd => (hA d hd).kp kp2 kM
    clear D1 ha1 hA kp2
    walk_at "w"
    intro x A3' n3'
    refine made_road n3' fun A3 n3 => ⟨rfl, ?_⟩
    clear n3'
    have D3 := D2.new n3
    have ha3 := n3.old ha2
    have hA3 : ∀ d ∈ ds, Asked C [k, c, a] A3 d := fun d hd => (hA2 d hd).kp (Kp.of_new n3) oM
    have hx3 : RoadAt C A3 x ps := n3.get
    have xM : x ∉ [k, c, a] := fun z => by
      have h1 := n3.eq
      have h2 := lt_of_at ha2
      simp only [List.mem_cons, List.not_mem_nil, or_false] at z
      rcases z with rfl | rfl | rfl
      · have := D2.lt x (by simp); omega
      · have := D2.lt x (by simp); omega
      · omega
    clear D2 ha2 hA2 n3
    walk_at "w"
    refine ⟨⟨_, ha3⟩, ?_⟩
    walk_at "w"
    refine ⟨k, c, x, ps, l, rfl, D3, hx3, fun z => xM (kM _ z), gp, fun j ts A4 hj4 nj ok ne D4 kp4 => ?_⟩
    have ha4 := kp4 _ _ ak ha3
    have hA4 : ∀ d ∈ ds, Asked C [k, c, a] A4 d := fun d hd => (hA3 d hd).kp kp4 kM
    have hx4 : RoadAt C A4 x ps := kp4 _ _ (fun z => xM (kM _ z)) hx3
    have jM : j ∉ [k, c, a] := fun z => by
      have h2 := lt_of_at ha3
      have h3 : A3.length ≤ j := List.getElem?_eq_none_iff.mp nj
      simp only [List.mem_cons, List.not_mem_nil, or_false] at z
      rcases z with rfl | rfl | rfl
      · have := D3.lt j (by simp); omega
      · have := D3.lt j (by simp); omega
      · omega
    clear D3 ha3 hA3 hx3 nj kp4
    walk_at "w"
    refine ⟨_, ha4, by omega, fun A5 p5 => ?_⟩
    have kp5 := Kp.of_put p5
    refine ⟨_, _, _, _, _, _, _, rfl, D4.put ak p5, p5.get, by rw [List.length_append, List.length_singleton]; omega, fun d hd => ?_⟩
    rcases List.mem_append.mp hd with q' | q'
    · exact (hA4 d q').kp kp5 aM
    · rw [List.mem_singleton.mp q']
      exact ⟨x, j, ps, l, ts, rfl, kp5 _ _ (fun z => xM (aM _ z)) hx4, kp5 _ _ (fun z => jM (aM _ z)) hj4, xM, jM, gp, ok, ne⟩
  · rintro σ A1 ⟨v3, v4, v5, v6, v7, v8, ds, rfl, D1, ha1, hlen, hA⟩
    replace hlen : ds.length ≤ 2 := hlen
    have ez : sizeLine = 16777216 := sizeLine_eq
    have hpk := pickG_len ds (-1)
    walk_at "w"
    refine ⟨_, ha1, fun j2 A2 n2 => ?_⟩
    walk_at "w"
    refine ⟨_, _, n2.old ha1, n2.get, by omega, fun j3 A3 n3 => ?_⟩
    have hA3 : ∀ d ∈ ds, Asked C [k, c, a] A3 d := fun d hd => ((hA d hd).kp (Kp.of_new n2) oM).kp (Kp.of_new n3) oM
    have hB : ∀ d ∈ ds ++ pickG ds (-1), Asked C [k, c, a] A3 d := fun d hd => (List.mem_append.mp hd).elim (hA3 d) fun z => hA3 d (pickG_mem z)
    have h3 := n3.get
    clear D1 ha1 n2 n3 hA hA3
    walk_at "w"
    refine ⟨_, h3, fun i σ A' => ∃ v3 v4 v5 v6 v7 v8, σ = [some (.scr ns), some (.ptr k), some (.ptr a), v3, v4, v5, v6, v7, v8] ∧ Kp [] A3 A', ⟨_, _, _, _, _, _, rfl, .refl _ _⟩, ?_, ?_, ?_⟩
    · rintro i σ A' _ ⟨_, _, _, _, _, _, _, kp⟩
      exact kp _ _ (fun z => nomatch z) h3
    · rintro i d σ A1 hi hd ⟨v3, v4, v5, v6, v7, v8, rfl, kp⟩
      obtain ⟨x, j, ps, l, ts, rfl, hx, hj, _, _, gp, ok, ne⟩ := ((hB d (List.mem_of_getElem? hd)).kp kp oM).ex
      obtain ⟨r, er⟩ := gp.good.spd_end
      have hlen6 := gp.len
      walk_at "w"
      refine ⟨x, j, ps, l, ts, rfl, hx, hj, gp, ok, ?_⟩
      walk_at "w"
      refine .f ?_
      walk_at "w"
      refine ⟨x, j, ps, l, ts, rfl, hx, hj, gp, ok, ne, fun A2 kp2 => ?_⟩
      have hx2 : RoadAt C A2 x ps := kp2 _ _ (fun z => nomatch z) hx
      have hj2 := kp2 _ _ (fun z => nomatch z) hj
      have kp2 := kp.trans kp2
      clear hx hj kp
      walk_at "w"
      refine .f ?_
      walk_at "w"
      refine ⟨j, ps, l, ts, rfl, hj2, gp, fun t ht => (ok.ok t ht).2, fun A4 kp4 => ?_⟩
      have hx4 : RoadAt C A4 x ps := kp4 _ _ (fun z => nomatch z) hx2
      have kp4 := kp2.trans kp4
      clear hx2 hj2 kp2
      walk_at "w"
      refine .f ?_
      walk_at "w"
      refine ⟨_, hx4, ⟨x, ps, l, rfl, hx4, gp.good, by omega, fun A5 kp5 => ⟨_, rfl, by omega, ?_⟩⟩⟩
      have hx5 : RoadAt C A5 x ps := kp5 _ _ (fun z => nomatch z) hx4
      have kp5 := kp4.trans kp5
      clear hx4 kp4
      walk_at "w"
      refine ⟨⟨by omega, by omega⟩, fun n acc A' => acc = dN ((spd ps).take n) ∧ A' = A5, by show ((spd ps).length : Int).toNat ≤ 100000; omega, ⟨rfl, rfl⟩, fun _ _ _ _ _ => trivial, ?_, ?_⟩
      · rintro n d acc A' hn hd ⟨rfl, rfl⟩
        replace hn : n < (spd ps).length := by have hn' : n < ((spd ps).length : Int).toNat := hn; omega
        cases Option.some.inj hd
        walk_at "w"
        refine .t ?_
        walk_at "w"
        refine ⟨_, hx5, rfl, ?_⟩
        rw [show (0 : Int) + (n : Int) = (n : Nat) by omega]
        walk_at "w"
        refine ⟨x, ps, l, n, rfl, hx5, gp.good.ends, ?_, rfl⟩
        rw [List.take_add_one, List.getElem?_eq_getElem hn, dN_app, List.getD_eq_getElem?_getD, List.getElem?_eq_getElem hn]
        rfl
      rintro acc A' ⟨rfl, rfl⟩
      intro j6 A6 n6
      rw [show List.take (srcR 0 ((spd ps).length : Int).toNat).n (spd ps) = spd ps by
        show List.take ((spd ps).length : Int).toNat (spd ps) = _
        rw [Int.toNat_natCast, List.take_length]] at n6
      have hx6 : RoadAt C A6 x ps := n6.old hx5
      have h6 := n6.get
      have kp6 := kp5.new n6
      clear n6 hx5 kp5
      walk_at "w"
      refine ⟨_, h6, ?_⟩
      walk_at "w"
      refine ⟨_, r, l, rfl, er, by omega, spd_le' gp, fun y qs A7 hy ny gq eq kp7 => ?_⟩
      have hx7 : RoadAt C A7 x ps := kp7 _ _ (fun z => nomatch z) hx6
      have h7 := kp7 _ _ (fun z => nomatch z) h6
      walk_at "w"
      refine ⟨_, _, hy, hx7.ty T, notFirst_self, ⟨y, qs, _, rfl, hy, .inl ⟨x, ps, rfl, hx7, gq.most, fun p hp => (gq.ok p hp).1, gp.good.most, fun p hp => (gp.good.ok p hp).1, fun A8 kp8 => ⟨_, rfl, ?_⟩⟩⟩⟩
      rw [show chg qs = chg ps by unfold chg; rw [eq], decide_eq_true rfl]
      have hx8 : RoadAt C A8 x ps := kp8 _ _ (fun z => nomatch z) hx7
      have h8 := kp8 _ _ (fun z => nomatch z) h7
      have kp8 := (kp6.trans kp7).trans kp8
      refine .f ?_
      walk_at "w"
      refine ⟨(spd ps).map fun n : Nat => (n : Int), by rw [h8, dN_dI], ?_⟩
      rw [sum_cast]
      walk_at "w"
      refine ⟨_, hx8, rfl, ?_⟩
      walk_at "w"
      refine ⟨_, hx8, ⟨x, ps, l, rfl, hx8, gp.good, by omega, fun A9 kp9 => ⟨_, rfl, by omega, ?_⟩⟩⟩
      have hx9 : RoadAt C A9 x ps := kp9 _ _ (fun z => nomatch z) hx8
      walk_at "w"
      refine ⟨x, ps, l, 0, (spd ps).length, rfl, hx9, gp.good.ends, gp.l1, fun p hp => (gp.good.ok p hp).2.2, ?_⟩
      rw [sumT_whole]
      walk_at "w"
      refine .n (fun c => absurd rfl c) (fun _ => ?_)
      walk_at "w"
      refine ⟨_, _, hx9, rfl, ?_⟩
      walk_at "w"
      refine ⟨_, (encPc.tup).eqd (by decide) ps ps, ?_⟩
      rw [decide_eq_true rfl]
      walk_at "w"
      refine .f ?_
      exact ⟨_, _, _, _, _, _, rfl, kp8.trans kp9⟩
    · rintro σ A1 ⟨v3, v4, v5, v6, v7, v8, rfl, kp⟩
      exact q A1
end
end Rp

namespace Rp
open PySem PySem.Spec PyProof.Rows L2
/-! ### the law's call, the guards known -/
section
variable {P : Program} {w : World} {K : PySem.W.Frag} {mg mb : Str → Option Value} {CX : CXT} {k : Nat} {fa a : Addr} {fd : FuncData} {x : Str} {sp : Sp} {s : Shared} {vs : List Value} {ns : List Int}
/-- from one abstract heap that holds the script at most -/
theorem law_coreG {H : Hp} (inK : K.In s.heap) (gl : s.heap.Ns mainGlobals mg) (bn : s.heap.Ns builtinsNs mb) (boot : ∀ y : Str, y ≠ "__name__" → mb y = bootBuiltins y) (lim : s.heap.NoLimit) (gens : s.gens = #[])
    (at_ : s.heap.get? a = some { cls := .type "list", data := .seq vs.toArray }) (room : Room k callerA)
    (F : ∀ base : Heap, K.In base → base.Ns mainGlobals mg → FnG P w K mg base CX k fa fd [x] sp) (bind : ∀ (s : Shared) (u : Value), BindsTo s fd ⟨[u], []⟩ [(x, u)])
    (one : ∀ b, H b = none ∨ ∃ o xs, H b = some (.frz o (.lst xs))) (ok : HOk P w H s.heap) (alone : ∀ b, H b ≠ none → b = a) (apart : H a ≠ none → K.lookup a = none)
    (keeps : sp [.ref a] H (fun v _ => v = .bl true) fun _ _ _ => False) (noX : ∀ e s', CX [] H s (fun _ _ _ => False) e s' → False) :
    codeAny (model P w) callerA (.call (.ref fa) ⟨[.ref a], []⟩) (fun r s' => r = .ok (.ret (.bool true)) ∧ OldK s.heap s'.heap ∧ s'.os = s.os ∧ AllBare s'.gens) s := by
  have noDict : ∀ {b : Addr} {o : Obj} {es : Array DictEntry} {ep : Nat}, s.heap.get? b = some o → o.data = .dict es ep → H b = none := fun {b o es ep} e d => by
    by_cases q : H b = none
    · exact q
    · have z := alone b q
      subst z
      rw [at_] at e
      cases e
      cases d
  have ns' : ∀ {b : Addr} {m : Str → Option Value}, s.heap.Ns b m → (hidT s.heap H).Ns b m := fun {b m} ⟨o, es, ep, e, d, r⟩ => ⟨o, es, ep, hidT_get e (noDict e d), d, r⟩
  have inB : K.In (hidT s.heap H) := fun b o e => hidT_get (inK b o e) (by
    by_cases q : H b = none
    · exact q
    · have z := alone b q
      subst z
      rw [apart q] at e
      cases e)
  obtain ⟨mc, lim1, lim2⟩ := lim
  have md : Mod K mg (hidT s.heap H) := ⟨inB, ns' gl, ⟨mb, ns' bn, boot⟩, ⟨mc, ns' lim1, lim2⟩⟩
  have en : Env0 P w K mg (hidT s.heap H) callerA [] s H := ⟨rfl, md, fun b o e => of_hidT e, Nat.le_of_eq (hidT_size _ _), trivial, fun b z => absurd z List.not_mem_nil, ok, .of_eq gens⟩
  refine codeAny_mono ((F _ inB (ns' gl)).go callerA [] s H ⟨[.ref a], []⟩ [.ref a] [.ref a] _ _ rfl room en (bind s (.ref a)) (.cons rfl .nil) keeps) fun r s' hr => ?_
  rcases r with e | fl
  · exact (noX e s' hr).elim
  · cases fl with
    | ret u =>
      obtain ⟨v, H', os, bare, un, ok', rv, rfl⟩ := hr
      cases rv
      refine ⟨rfl, OldK.of_keep fun b o e => ?_, os, bare⟩
      rcases one b with q | ⟨ob, xs, q⟩
      · exact un.keep b o e q (fun z => by cases z) (fun z => by cases z)
      · have e1 := (ok b _ q).1
        have e2 := (ok' b _ (un.frzs b ob _ q)).1
        rw [e] at e1
        cases e1
        exact e2
    | next => exact hr.elim
    | brk => exact hr.elim
    | cont => exact hr.elim
theorem law_callG (inK : K.In s.heap) (gl : s.heap.Ns mainGlobals mg) (bn : s.heap.Ns builtinsNs mb) (boot : ∀ y : Str, y ≠ "__name__" → mb y = bootBuiltins y) (lim : s.heap.NoLimit) (gens : s.gens = #[])
    (at_ : s.heap.get? a = some { cls := .type "list", data := .seq vs.toArray }) (hin : IntsAre vs ns) (few : ns.length ≤ sizeLine) (room : Room k callerA)
    (F : ∀ base : Heap, K.In base → base.Ns mainGlobals mg → FnG P w K mg base CX k fa fd [x] sp) (bind : ∀ (s : Shared) (u : Value), BindsTo s fd ⟨[u], []⟩ [(x, u)])
    (keeps : ∀ H : Hp, Only H → SqL K H a (ns.map V.int) → sp [.ref a] H (fun v _ => v = .bl true) fun _ _ _ => False) (noX : ∀ H e s', CX [] H s (fun _ _ _ => False) e s' → False) :
    codeAny (model P w) callerA (.call (.ref fa) ⟨[.ref a], []⟩) (fun r s' => r = .ok (.ret (.bool true)) ∧ OldK s.heap s'.heap ∧ s'.os = s.os ∧ AllBare s'.gens) s := by
  have rel := vals_ints hin
  cases lk : K.lookup a with
  | some o =>
    have e := inK a o lk
    rw [at_] at e
    cases e
    refine law_coreG (H := fun _ => none) inK gl bn boot lim gens at_ room F bind (fun _ => .inl rfl) (fun b u z => by cases z) (fun b z => (z rfl).elim) (fun z => (z rfl).elim) (keeps _ (fun _ => .inl rfl) ?_) (noX _)
    exact .inr ⟨_, vs.toArray, _, lk, rfl, rfl, rfl, by rw [List.size_toArray, hin.length]; exact few, by simpa using rel⟩
  | none =>
    have here : (fun b => if b = a then some (HO.frz { cls := .type "list", data := .seq vs.toArray } (.lst (ns.map V.int))) else none) a = some (HO.frz { cls := .type "list", data := .seq vs.toArray } (.lst (ns.map V.int))) := if_pos rfl
    have only : ∀ b, (fun b => if b = a then some (HO.frz { cls := .type "list", data := .seq vs.toArray } (.lst (ns.map V.int))) else none) b = none ∨ ∃ o xs, (fun b => if b = a then some (HO.frz { cls := .type "list", data := .seq vs.toArray } (.lst (ns.map V.int))) else none) b = some (.frz o (.lst xs)) := fun b => by
      by_cases q : b = a
      · exact .inr ⟨_, _, if_pos q⟩
      · exact .inl (if_neg q)
    refine law_coreG inK gl bn boot lim gens at_ room F bind only (fun b u z => ?_) (fun b z => ?_) (fun _ => lk) (keeps _ only (.inl (.inr ⟨_, here⟩))) (noX _)
    · by_cases q : b = a
      · subst q
        have z' := here.symm.trans z
        cases z'
        exact ⟨at_, by rw [List.length_map]; exact few, vs, 0, rel, at_⟩
      · rw [if_neg q] at z
        cases z
    · by_cases q : b = a
      · exact q
      · exact (z (if_neg q)).elim
end
/-- the end of a row: the written part's facts, the law's def, its promise -/
theorem walkG {l : PySem.W.OpenLaw} {n k : Nat} {q : Program} {loose : List Str} {XP : (Str → Option Value) → Heap → Prop} {YP : World → Heap → Prop} {d : DefRec} {K : Params → PySem.W.Frag} {CX : World → CXT} {sp : PySem.W.Frag → Sp} {x : Str}
    (hn : l.most = some n) (hn2 : n ≤ sizeLine) (hdf : d.params.defaults = []) (room : Room k callerA) (hY : ∀ (w : World) (h : Heap), YP w h → (K w.params).In h)
    (F : ∀ (w : World) (mg : Str → Option Value) (fa : Addr) (h : Heap), (K w.params).In h → h.Ns mainGlobals mg → mg d.name = some (.ref fa) →
      ∃ fd : FuncData, (∀ (s : Shared) (u : Value), BindsTo s fd ⟨[u], []⟩ [(x, u)]) ∧ ∀ base : Heap, (K w.params).In base → base.Ns mainGlobals mg → FnG l.prog w (K w.params) mg base (CX w) k fa fd [x] (sp (K w.params)))
    (keeps : ∀ (K : PySem.W.Frag) (H : Hp) (a : Addr) (ns : List Int), ns.length ≤ n → Only H → SqL K H a (ns.map V.int) → sp K [.ref a] H (fun v _ => v = .bl true) fun _ _ _ => False)
    (noX : ∀ (w : World) (H : Hp) (s : Shared) (e : Value) (s' : Shared), CX w [] H s (fun _ _ _ => False) e s' → False) : PySem.W.WalkO q loose XP YP l.row.toRowW d [] (fun f vs => PySem.call f vs) := by
  refine Att.attach_call hn hdf fun w s0 s1 mg mb fa o pm cd doc a vs ns G Y _ _ _ hmg hobj hints hlen hg => ?_
  obtain ⟨fd, hb, hF⟩ := F w mg fa _ (hY w _ Y) G.T.g hmg
  exact law_callG (hY w _ Y) G.T.g G.T.b G.T.builtins G.T.nolimit hg hobj hints (Nat.le_trans hlen hn2) room hF hb (fun H only sq => keeps (K w.params) H a ns hlen only sq) fun H e s' => noX w H s1 e s'
/-! ### small data may be shown -/
structure Sm (n : Nat) (d : PyData) : Prop where
  ls : d.leavesShort 40 = true
  sh : d.showable = true
  nd : d.hasDict = false
  dp : d.depth ≤ n
  wt : d.weight ≤ 4 ^ n * 64
theorem Sm.shw {n : Nat} {d : PyData} (h : Sm n d) (hn : n ≤ 6) : Shw d := by
  refine ⟨h.sh, h.nd, by have := h.dp; omega, ?_⟩
  have q := PyData.shown_le 40 (by decide) d h.ls
  have w := h.wt
  have m : (4 : Nat) ^ n ≤ 4 ^ 6 := Nat.pow_le_pow_right (by decide) hn
  have e : sizeLine = 16777216 := rfl
  rw [e]
  have : (4 : Nat) ^ 6 = 4096 := by decide
  omega
end Rp

namespace Rp
open PySem PySem.Spec PyProof.Rows L2
theorem all_mk {w : World} {K : PySem.W.Frag} {h : Heap} {mg : Str → Option Value} {fa : Addr} (X : K.In h) (G : h.Ns mainGlobals mg) (hfa : mg "law" = some (.ref fa))
    {C fI fL fA_ fO_ fF_ eF_ fE_ fN_ fBf fK_ fH_ fD_ fDr fG_ fT_ fR_ fU_ fV_ fLaw : Addr} {odI anI odL anL odA_ anA_ odO_ anO_ odF_ anF_ odE_ anE_ odN_ anN_ odBf anBf odK_ anK_ odH_ anH_ odD_ anD_ odDr anDr odG_ anG_ odT_ anT_ odR_ anR_ odU_ anU_ odV_ anV_ odLaw anLaw : Option Addr} {slI slL slA_ slO_ slF_ slE_ slN_ slBf slK_ slH_ slD_ slDr slG_ slT_ slR_ slU_ slV_ slLaw : Array (Option Value)} {ocI kVI dcI pmI cdI ctI ocL kVL dcL pmL cdL ctL ocA_ kVA_ dcA_ pmA_ cdA_ ctA_ ocO_ kVO_ dcO_ pmO_ cdO_ ctO_ ocF_ dcF_ pmF_ cdF_ ctF_ ocE_ kVE_ dcE_ pmE_ cdE_ ctE_ ocN_ kVN_ dcN_ pmN_ cdN_ ctN_ ocBf kVBf dcBf pmBf cdBf ctBf ocK_ kVK_ dcK_ pmK_ cdK_ ctK_ ocH_ kVH_ dcH_ pmH_ cdH_ ctH_ ocD_ kVD_ dcD_ pmD_ cdD_ ctD_ ocDr kVDr dcDr pmDr cdDr ctDr ocG_ kVG_ dcG_ pmG_ cdG_ ctG_ ocT_ kVT_ dcT_ pmT_ cdT_ ctT_ ocR_ kVR_ dcR_ pmR_ cdR_ ctR_ ocU_ kVU_ dcU_ pmU_ cdU_ ctU_ ocV_ kVV_ dcV_ pmV_ cdV_ ctV_ ocLaw kVLaw dcLaw pmLaw cdLaw ctLaw : Value}
    {tF__wait : Tok}
    (aC : PySem.W.nsIn K mainGlobals "Road" = some (some (.ref C)))
    (qI : PySem.W.findIn K (.ref C) "__init__" = some (some (.ref fI)))
    (iI : PySem.W.isFn K (.ref fI) = true)
    (lI : K.lookup fI = some ⟨ocI, odI, .func (PySem.W.fnOf "__init__" "Road.__init__" (defArgs sRInit) (defBody sRInit) (defScope sRInit) .none kVI dcI pmI anI cdI ctI), slI⟩)
    (cI : PySem.W.codeIn K cdI "Road.__init__" = true)
    (kI : PySem.W.keepIn K (.ref fI) = true)
    (qL : PySem.W.findIn K (.ref C) "_last_speed" = some (some (.ref fL)))
    (iL : PySem.W.isFn K (.ref fL) = true)
    (lL : K.lookup fL = some ⟨ocL, odL, .func (PySem.W.fnOf "_last_speed" "Road._last_speed" (defArgs sRLast) (defBody sRLast) (defScope sRLast) .none kVL dcL pmL anL cdL ctL), slL⟩)
    (cL : PySem.W.codeIn K cdL "Road._last_speed" = true)
    (kL : PySem.W.keepIn K (.ref fL) = true)
    (qA_ : PySem.W.findIn K (.ref C) "speed_at" = some (some (.ref fA_)))
    (iA_ : PySem.W.isFn K (.ref fA_) = true)
    (lA_ : K.lookup fA_ = some ⟨ocA_, odA_, .func (PySem.W.fnOf "speed_at" "Road.speed_at" (defArgs sSpeedAt) (defBody sSpeedAt) (defScope sSpeedAt) .none kVA_ dcA_ pmA_ anA_ cdA_ ctA_), slA_⟩)
    (cA_ : PySem.W.codeIn K cdA_ "Road.speed_at" = true)
    (kA_ : PySem.W.keepIn K (.ref fA_) = true)
    (qO_ : PySem.W.findIn K (.ref C) "sum_of" = some (some (.ref fO_)))
    (iO_ : PySem.W.isFn K (.ref fO_) = true)
    (lO_ : K.lookup fO_ = some ⟨ocO_, odO_, .func (PySem.W.fnOf "sum_of" "Road.sum_of" (defArgs sSumOf) (defBody sSumOf) (defScope sSumOf) .none kVO_ dcO_ pmO_ anO_ cdO_ ctO_), slO_⟩)
    (cO_ : PySem.W.codeIn K cdO_ "Road.sum_of" = true)
    (kO_ : PySem.W.keepIn K (.ref fO_) = true)
    (qF_ : PySem.W.findIn K (.ref C) "fetched" = some (some (.ref fF_)))
    (iF_ : PySem.W.isFn K (.ref fF_) = true)
    (lF_ : K.lookup fF_ = some ⟨ocF_, odF_, .func (PySem.W.fnOf "fetched" "Road.fetched" (defArgs sFetched) (defBody sFetched) (defScope sFetched) .none (.ref eF_) dcF_ pmF_ anF_ cdF_ ctF_), slF_⟩)
    (cF_ : PySem.W.codeIn K cdF_ "Road.fetched" = true)
    (kF_ : PySem.W.keepIn K (.ref fF_) = true)
    (wF__wait : PySem.W.nsIn K eF_ "wait" = some (some (.int 0 tF__wait)))
    (qE_ : PySem.W.findIn K (.ref C) "__eq__" = some (some (.ref fE_)))
    (iE_ : PySem.W.isFn K (.ref fE_) = true)
    (lE_ : K.lookup fE_ = some ⟨ocE_, odE_, .func (PySem.W.fnOf "__eq__" "Road.__eq__" (defArgs sREq) (defBody sREq) (defScope sREq) .none kVE_ dcE_ pmE_ anE_ cdE_ ctE_), slE_⟩)
    (cE_ : PySem.W.codeIn K cdE_ "Road.__eq__" = true)
    (kE_ : PySem.W.keepIn K (.ref fE_) = true)
    (qN_ : PySem.W.findIn K (.ref C) "__len__" = some (some (.ref fN_)))
    (iN_ : PySem.W.isFn K (.ref fN_) = true)
    (lN_ : K.lookup fN_ = some ⟨ocN_, odN_, .func (PySem.W.fnOf "__len__" "Road.__len__" (defArgs sRLen) (defBody sRLen) (defScope sRLen) .none kVN_ dcN_ pmN_ anN_ cdN_ ctN_), slN_⟩)
    (cN_ : PySem.W.codeIn K cdN_ "Road.__len__" = true)
    (kN_ : PySem.W.keepIn K (.ref fN_) = true)
    (gBf : PySem.W.nsIn K mainGlobals "_beats_for" = some (some (.ref fBf)))
    (lBf : K.lookup fBf = some ⟨ocBf, odBf, .func (PySem.W.fnOf "_beats_for" "_beats_for" (defArgs sBeatsFor) (defBody sBeatsFor) (defScope sBeatsFor) .none kVBf dcBf pmBf anBf cdBf ctBf), slBf⟩)
    (cBf : PySem.W.codeIn K cdBf "_beats_for" = true)
    (kBf : PySem.W.keepIn K (.ref fBf) = true)
    (gK_ : PySem.W.nsIn K mainGlobals "known" = some (some (.ref fK_)))
    (lK_ : K.lookup fK_ = some ⟨ocK_, odK_, .func (PySem.W.fnOf "known" "known" (defArgs sKnown) (defBody sKnown) (defScope sKnown) .none kVK_ dcK_ pmK_ anK_ cdK_ ctK_), slK_⟩)
    (cK_ : PySem.W.codeIn K cdK_ "known" = true)
    (kK_ : PySem.W.keepIn K (.ref fK_) = true)
    (gH_ : PySem.W.nsIn K mainGlobals "_changes" = some (some (.ref fH_)))
    (lH_ : K.lookup fH_ = some ⟨ocH_, odH_, .func (PySem.W.fnOf "_changes" "_changes" (defArgs sChanges) (defBody sChanges) (defScope sChanges) .none kVH_ dcH_ pmH_ anH_ cdH_ ctH_), slH_⟩)
    (cH_ : PySem.W.codeIn K cdH_ "_changes" = true)
    (kH_ : PySem.W.keepIn K (.ref fH_) = true)
    (gD_ : PySem.W.nsIn K mainGlobals "_law_deck" = some (some (.ref fD_)))
    (lD_ : K.lookup fD_ = some ⟨ocD_, odD_, .func (PySem.W.fnOf "_law_deck" "_law_deck" (defArgs sDeck) (defBody sDeck) (defScope sDeck) .none kVD_ dcD_ pmD_ anD_ cdD_ ctD_), slD_⟩)
    (cD_ : PySem.W.codeIn K cdD_ "_law_deck" = true)
    (kD_ : PySem.W.keepIn K (.ref fD_) = true)
    (gDr : PySem.W.nsIn K mainGlobals "_law_draw" = some (some (.ref fDr)))
    (lDr : K.lookup fDr = some ⟨ocDr, odDr, .func (PySem.W.fnOf "_law_draw" "_law_draw" (defArgs sDraw) (defBody sDraw) (defScope sDraw) .none kVDr dcDr pmDr anDr cdDr ctDr), slDr⟩)
    (cDr : PySem.W.codeIn K cdDr "_law_draw" = true)
    (kDr : PySem.W.keepIn K (.ref fDr) = true)
    (gG_ : PySem.W.nsIn K mainGlobals "_law_great" = some (some (.ref fG_)))
    (lG_ : K.lookup fG_ = some ⟨ocG_, odG_, .func (PySem.W.fnOf "_law_great" "_law_great" (defArgs sGreat) (defBody sGreat) (defScope sGreat) .none kVG_ dcG_ pmG_ anG_ cdG_ ctG_), slG_⟩)
    (cG_ : PySem.W.codeIn K cdG_ "_law_great" = true)
    (kG_ : PySem.W.keepIn K (.ref fG_) = true)
    (gT_ : PySem.W.nsIn K mainGlobals "_law_trip" = some (some (.ref fT_)))
    (lT_ : K.lookup fT_ = some ⟨ocT_, odT_, .func (PySem.W.fnOf "_law_trip" "_law_trip" (defArgs sTrip) (defBody sTrip) (defScope sTrip) .none kVT_ dcT_ pmT_ anT_ cdT_ ctT_), slT_⟩)
    (cT_ : PySem.W.codeIn K cdT_ "_law_trip" = true)
    (kT_ : PySem.W.keepIn K (.ref fT_) = true)
    (gR_ : PySem.W.nsIn K mainGlobals "_law_trip_right" = some (some (.ref fR_)))
    (lR_ : K.lookup fR_ = some ⟨ocR_, odR_, .func (PySem.W.fnOf "_law_trip_right" "_law_trip_right" (defArgs sTripRight) (defBody sTripRight) (defScope sTripRight) .none kVR_ dcR_ pmR_ anR_ cdR_ ctR_), slR_⟩)
    (cR_ : PySem.W.codeIn K cdR_ "_law_trip_right" = true)
    (kR_ : PySem.W.keepIn K (.ref fR_) = true)
    (gU_ : PySem.W.nsIn K mainGlobals "_law_together_right" = some (some (.ref fU_)))
    (lU_ : K.lookup fU_ = some ⟨ocU_, odU_, .func (PySem.W.fnOf "_law_together_right" "_law_together_right" (defArgs sTogether) (defBody sTogether) (defScope sTogether) .none kVU_ dcU_ pmU_ anU_ cdU_ ctU_), slU_⟩)
    (cU_ : PySem.W.codeIn K cdU_ "_law_together_right" = true)
    (kU_ : PySem.W.keepIn K (.ref fU_) = true)
    (gV_ : PySem.W.nsIn K mainGlobals "_law_turned_right" = some (some (.ref fV_)))
    (lV_ : K.lookup fV_ = some ⟨ocV_, odV_, .func (PySem.W.fnOf "_law_turned_right" "_law_turned_right" (defArgs sTurned) (defBody sTurned) (defScope sTurned) .none kVV_ dcV_ pmV_ anV_ cdV_ ctV_), slV_⟩)
    (cV_ : PySem.W.codeIn K cdV_ "_law_turned_right" = true)
    (kV_ : PySem.W.keepIn K (.ref fV_) = true)
    (gLaw : PySem.W.nsIn K mainGlobals "law" = some (some (.ref fLaw)))
    (lLaw : K.lookup fLaw = some ⟨ocLaw, odLaw, .func (PySem.W.fnOf "law" "law" (defArgs sLaw) (defBody sLaw) (defScope sLaw) .none kVLaw dcLaw pmLaw anLaw cdLaw ctLaw), slLaw⟩)
    (cLaw : PySem.W.codeIn K cdLaw "law" = true)
    (kLaw : PySem.W.keepIn K (.ref fLaw) = true)
    (pg : PySem.W.plainGet K C Str.empty = true)
    (hd : PySem.W.hasDictIn K C = true)
    (po : PySem.W.plainOver K C = true)
    (sa : PySem.W.findIn K (.ref C) "__setattr__" = some (some (.builtin "object.__setattr__")))
    (mk : PySem.W.makesIn K C = true)
    (kc : PySem.W.keepIn K (.ref C) = true)
    (n1 : PySem.W.findIn K (.ref C) "pieces" = some none)
    (ca : PySem.W.findIn K (.ref C) "__class__" = some (some (.builtin "object.__class__")))
    (cn : PySem.W.specialIn K (.builtin "object.__class__") "__get__" = some (some (.builtin "getset_descriptor.__get__")))
    (ct : PySem.W.takesIn K (.builtin "object.__class__") = some true)
    (cm : PySem.W.mroIn K C (.type "object") = some true)
    (zint : PySem.W.nsIn K mainGlobals "int" = some none)
    (zlen : PySem.W.nsIn K mainGlobals "len" = some none)
    (zrange : PySem.W.nsIn K mainGlobals "range" = some none)
    (ztuple : PySem.W.nsIn K mainGlobals "tuple" = some none)
    (zlist : PySem.W.nsIn K mainGlobals "list" = some none)
    (zmax : PySem.W.nsIn K mainGlobals "max" = some none)
    (zmin : PySem.W.nsIn K mainGlobals "min" = some none)
    (zsum : PySem.W.nsIn K mainGlobals "sum" = some none)
    (zisinstance : PySem.W.nsIn K mainGlobals "isinstance" = some none)
    (zrepr : PySem.W.nsIn K mainGlobals "repr" = some none)
    (zstr : PySem.W.nsIn K mainGlobals "str" = some none)
    (zabs : PySem.W.nsIn K mainGlobals "abs" = some none)
    (zenumerate : PySem.W.nsIn K mainGlobals "enumerate" = some none)
    (zzip : PySem.W.nsIn K mainGlobals "zip" = some none)
    (zbool : PySem.W.nsIn K mainGlobals "bool" = some none)
    : ∃ fd : FuncData, (∀ (s : Shared) (u : Value), BindsTo s fd ⟨[u], []⟩ [("_law_script", u)]) ∧ ∀ base : Heap, K.In base → base.Ns mainGlobals mg → FnG PySem.Challenge.pw_rateplan_k14_whole_great_roads w K mg base CX0 4 fa fd ["_law_script"] (spOf K 1 spLawH) := by
  have e := hfa.symm.trans (PySem.W.mg_of X G gLaw)
  cases e
  have FI := fun_mk (st := sRInit) lI cI kI
  have bI := FI.binds (ps := ["self", "pieces"]) fun _ _ _ _ _ _ us hl => match us, hl with | [_, _], _ => rfl
  have FL := fun_mk (st := sRLast) lL cL kL
  have bL := FL.binds (ps := ["self"]) fun _ _ _ _ _ _ us hl => match us, hl with | [_], _ => rfl
  have FA_ := fun_mk (st := sSpeedAt) lA_ cA_ kA_
  have bA_ := FA_.binds (ps := ["self", "beat"]) fun _ _ _ _ _ _ us hl => match us, hl with | [_, _], _ => rfl
  have FO_ := fun_mk (st := sSumOf) lO_ cO_ kO_
  have bO_ := FO_.binds (ps := ["self", "first", "last"]) fun _ _ _ _ _ _ us hl => match us, hl with | [_, _, _], _ => rfl
  have FF_ := fun_mk (st := sFetched) lF_ cF_ kF_
  have GF_ := funD_of (kws := [("wait", .int 0)]) (params := defArgs sFetched) (body := defBody sFetched) (scope := defScope sFetched) lF_ cF_ kF_ (fun q hq => by simp only [List.mem_cons, List.not_mem_nil, or_false] at hq; rcases hq with rfl; exact ⟨_, wF__wait, ⟨_, rfl⟩⟩)
  have FE_ := fun_mk (st := sREq) lE_ cE_ kE_
  have bE_ := FE_.binds (ps := ["self", "other"]) fun _ _ _ _ _ _ us hl => match us, hl with | [_, _], _ => rfl
  have FN_ := fun_mk (st := sRLen) lN_ cN_ kN_
  have bN_ := FN_.binds (ps := ["self"]) fun _ _ _ _ _ _ us hl => match us, hl with | [_], _ => rfl
  have FBf := fun_mk (st := sBeatsFor) lBf cBf kBf
  have bBf := FBf.binds (ps := ["bits", "speed"]) fun _ _ _ _ _ _ us hl => match us, hl with | [_, _], _ => rfl
  have mBf := PySem.W.mg_of X G gBf
  have FK_ := fun_mk (st := sKnown) lK_ cK_ kK_
  have bK_ := FK_.binds (ps := ["speeds"]) fun _ _ _ _ _ _ us hl => match us, hl with | [_], _ => rfl
  have mK_ := PySem.W.mg_of X G gK_
  have FH_ := fun_mk (st := sChanges) lH_ cH_ kH_
  have bH_ := FH_.binds (ps := ["pieces"]) fun _ _ _ _ _ _ us hl => match us, hl with | [_], _ => rfl
  have mH_ := PySem.W.mg_of X G gH_
  have FD_ := fun_mk (st := sDeck) lD_ cD_ kD_
  have bD_ := FD_.binds (ps := ["_law_script"]) fun _ _ _ _ _ _ us hl => match us, hl with | [_], _ => rfl
  have mD_ := PySem.W.mg_of X G gD_
  have FDr := fun_mk (st := sDraw) lDr cDr kDr
  have bDr := FDr.binds (ps := ["_law_deck_here", "_law_ways"]) fun _ _ _ _ _ _ us hl => match us, hl with | [_, _], _ => rfl
  have mDr := PySem.W.mg_of X G gDr
  have FG_ := fun_mk (st := sGreat) lG_ cG_ kG_
  have bG_ := FG_.binds (ps := ["_law_deck_here"]) fun _ _ _ _ _ _ us hl => match us, hl with | [_], _ => rfl
  have mG_ := PySem.W.mg_of X G gG_
  have FT_ := fun_mk (st := sTrip) lT_ cT_ kT_
  have bT_ := FT_.binds (ps := ["_law_deck_here", "_law_road"]) fun _ _ _ _ _ _ us hl => match us, hl with | [_, _], _ => rfl
  have mT_ := PySem.W.mg_of X G gT_
  have FR_ := fun_mk (st := sTripRight) lR_ cR_ kR_
  have bR_ := FR_.binds (ps := ["_law_road", "_law_trip_here"]) fun _ _ _ _ _ _ us hl => match us, hl with | [_, _], _ => rfl
  have mR_ := PySem.W.mg_of X G gR_
  have FU_ := fun_mk (st := sTogether) lU_ cU_ kU_
  have bU_ := FU_.binds (ps := ["_law_road", "_law_trip_here"]) fun _ _ _ _ _ _ us hl => match us, hl with | [_, _], _ => rfl
  have mU_ := PySem.W.mg_of X G gU_
  have FV_ := fun_mk (st := sTurned) lV_ cV_ kV_
  have bV_ := FV_.binds (ps := ["_law_pieces", "_law_trip_here"]) fun _ _ _ _ _ _ us hl => match us, hl with | [_, _], _ => rfl
  have mV_ := PySem.W.mg_of X G gV_
  have FLaw := fun_mk (st := sLaw) lLaw cLaw kLaw
  have bLaw := FLaw.binds (ps := ["_law_script"]) fun _ _ _ _ _ _ us hl => match us, hl with | [_], _ => rfl
  have mLaw := PySem.W.mg_of X G gLaw
  have nint := PySem.W.mg_none_of X G zint
  have nlen := PySem.W.mg_none_of X G zlen
  have nrange := PySem.W.mg_none_of X G zrange
  have ntuple := PySem.W.mg_none_of X G ztuple
  have nlist := PySem.W.mg_none_of X G zlist
  have nmax := PySem.W.mg_none_of X G zmax
  have nmin := PySem.W.mg_none_of X G zmin
  have nsum := PySem.W.mg_none_of X G zsum
  have nisinstance := PySem.W.mg_none_of X G zisinstance
  have nrepr := PySem.W.mg_none_of X G zrepr
  have nstr := PySem.W.mg_none_of X G zstr
  have nabs := PySem.W.mg_none_of X G zabs
  have nenumerate := PySem.W.mg_none_of X G zenumerate
  have nzip := PySem.W.mg_none_of X G zzip
  have nbool := PySem.W.mg_none_of X G zbool
  have mC := PySem.W.mg_of X G aC
  have B : Bi mg := ⟨nint, nlen, nrange, ntuple, nlist, nmax, nmin, nsum, nisinstance, nrepr, nstr, nabs, nenumerate, nzip, nbool⟩
  have T : RdB K C fI := { cl := ⟨pg, hd, po, sa⟩, make := ⟨mk, qI, iI, kc⟩, np := n1, ca := ca, cn := cn, ct := ct, cm := cm }
  have Z : EqK K C fE_ := ⟨qE_, iE_⟩
  exact ⟨PySem.W.fnOf "law" "law" (defArgs sLaw) (defBody sLaw) (defScope sLaw) .none kVLaw dcLaw pmLaw anLaw cdLaw ctLaw, fun s v => .of_eq rfl, fun base _ _ => ok_law FLaw B T Z ⟨qN_, iN_⟩ mC FI bI FL bL ⟨qL, iL, kL⟩ FA_ bA_ ⟨qA_, iA_, kA_⟩ FO_ bO_ ⟨qO_, iO_, kO_⟩ FBf mBf bBf FF_ GF_ ⟨qF_, iF_, kF_⟩ FN_ bN_ FE_ bE_ FH_ mH_ bH_ FK_ mK_ bK_ FD_ mD_ bD_ FDr mDr bDr FG_ mG_ bG_ FT_ mT_ bT_ FR_ mR_ bR_ FU_ mU_ bU_ FV_ mV_ bV_⟩
end Rp
open PySem PySem.W PyProof.Rows
set_option maxRecDepth 100000 in
set_option maxHeartbeats 0 in
theorem PySem.Challenge.cw_rateplan_k14_whole_great_roads_holds : PySem.Challenge.rw_rateplan_k14_whole_great_roads.Holds := by
  w_on; o_law; k_head; (case hw => w_witness2)
  k_fill
  refine Rp.walkG (l := PySem.Challenge.rw_rateplan_k14_whole_great_roads) (n := 63) (k := 4) (x := "_law_script") (CX := fun _ => L2.CX0) (sp := fun K => Rp.spOf K 1 Rp.spLawH) rfl (by decide) rfl ⟨rfl, by decide, by decide⟩ (fun w h Y => PySem.W.kIn_of Y) ?F (fun K H a ns hn on hS => Rp.lawH hn on hS) (fun _ _ _ _ _ z => z)
  case F =>
    intro w mg fa h KX G hmg
    refine' Rp.all_mk KX G hmg ?aC ?qI ?iI ?lI ?cI ?kI ?qL ?iL ?lL ?cL ?kL ?qA_ ?iA_ ?lA_ ?cA_ ?kA_ ?qO_ ?iO_ ?lO_ ?cO_ ?kO_ ?qF_ ?iF_ ?lF_ ?cF_ ?kF_ ?wF__wait ?qE_ ?iE_ ?lE_ ?cE_ ?kE_ ?qN_ ?iN_ ?lN_ ?cN_ ?kN_ ?gBf ?lBf ?cBf ?kBf ?gK_ ?lK_ ?cK_ ?kK_ ?gH_ ?lH_ ?cH_ ?kH_ ?gD_ ?lD_ ?cD_ ?kD_ ?gDr ?lDr ?cDr ?kDr ?gG_ ?lG_ ?cG_ ?kG_ ?gT_ ?lT_ ?cT_ ?kT_ ?gR_ ?lR_ ?cR_ ?kR_ ?gU_ ?lU_ ?cU_ ?kU_ ?gV_ ?lV_ ?cV_ ?kV_ ?gLaw ?lLaw ?cLaw ?kLaw ?pg ?hd ?po ?sa ?mk ?kc ?n1 ?ca ?cn ?ct ?cm ?zint ?zlen ?zrange ?ztuple ?zlist ?zmax ?zmin ?zsum ?zisinstance ?zrepr ?zstr ?zabs ?zenumerate ?zzip ?zbool
    (case aC => k_is)
    (case qI => k_is)
    (case iI => k_is)
    (case lI => k_is)
    (case cI => k_is)
    (case kI => k_is)
    (case qL => k_is)
    (case iL => k_is)
    (case lL => k_is)
    (case cL => k_is)
    (case kL => k_is)
    (case qA_ => k_is)
    (case iA_ => k_is)
    (case lA_ => k_is)
    (case cA_ => k_is)
    (case kA_ => k_is)
    (case qO_ => k_is)
    (case iO_ => k_is)
    (case lO_ => k_is)
    (case cO_ => k_is)
    (case kO_ => k_is)
    (case qF_ => k_is)
    (case iF_ => k_is)
    (case lF_ => k_is)
    (case cF_ => k_is)
    (case kF_ => k_is)
    (case wF__wait => k_is)
    (case qE_ => k_is)
    (case iE_ => k_is)
    (case lE_ => k_is)
    (case cE_ => k_is)
    (case kE_ => k_is)
    (case qN_ => k_is)
    (case iN_ => k_is)
    (case lN_ => k_is)
    (case cN_ => k_is)
    (case kN_ => k_is)
    (case gBf => k_is)
    (case lBf => k_is)
    (case cBf => k_is)
    (case kBf => k_is)
    (case gK_ => k_is)
    (case lK_ => k_is)
    (case cK_ => k_is)
    (case kK_ => k_is)
    (case gH_ => k_is)
    (case lH_ => k_is)
    (case cH_ => k_is)
    (case kH_ => k_is)
    (case gD_ => k_is)
    (case lD_ => k_is)
    (case cD_ => k_is)
    (case kD_ => k_is)
    (case gDr => k_is)
    (case lDr => k_is)
    (case cDr => k_is)
    (case kDr => k_is)
    (case gG_ => k_is)
    (case lG_ => k_is)
    (case cG_ => k_is)
    (case kG_ => k_is)
    (case gT_ => k_is)
    (case lT_ => k_is)
    (case cT_ => k_is)
    (case kT_ => k_is)
    (case gR_ => k_is)
    (case lR_ => k_is)
    (case cR_ => k_is)
    (case kR_ => k_is)
    (case gU_ => k_is)
    (case lU_ => k_is)
    (case cU_ => k_is)
    (case kU_ => k_is)
    (case gV_ => k_is)
    (case lV_ => k_is)
    (case cV_ => k_is)
    (case kV_ => k_is)
    (case gLaw => k_is)
    (case lLaw => k_is)
    (case cLaw => k_is)
    (case kLaw => k_is)
    (case pg => k_is)
    (case hd => k_is)
    (case po => k_is)
    (case sa => k_is)
    (case mk => k_is)
    (case kc => k_is)
    (case n1 => k_is)
    (case ca => k_is)
    (case cn => k_is)
    (case ct => k_is)
    (case cm => k_is)
    (case zint => k_is)
    (case zlen => k_is)
    (case zrange => k_is)
    (case ztuple => k_is)
    (case zlist => k_is)
    (case zmax => k_is)
    (case zmin => k_is)
    (case zsum => k_is)
    (case zisinstance => k_is)
    (case zrepr => k_is)
    (case zstr => k_is)
    (case zabs => k_is)
    (case zenumerate => k_is)
    (case zzip => k_is)
    (case zbool => k_is)

