import PyProof.Rows.All
import Wide.All
import OpenK.AllK
import Wide.FinOn
import HandS.ForMost
import HandS.TupAny
import HandS.Deep
import HandS.IsInst
import HandS.Property
import HandS.Lambda
import HandS.Style
import HandS.Iter
import KE.DataMinMax
import KE.SortKeyHeap
import HandS.Text
import KE.SortData
import HandS.TupSets
import PyProof.WalksMore
import HandS.Strs
import HandS.Dict
import HandS.Flt
import HandS.Steps
import HandS.Defaults
import HandS.HeadHook2
import PyProof.ReprBulk
import HandS.List
import HandS.EndTab
import HandS.HeadWalk
import HandS.HeadHook4
import HandS.SetBool
import HandS.SetTxt0
import KE.DataMinKey
import PyProof.StrBlock2
import HandS.TupLe
import KE.KStateDown
import HandS.Head0
import HandS.Head1
import HandS.Head2
import HandS.HeadEnd
import HandS.HeadHook1
import HandS.HeadHook3
import PySem.Challenge.RW_handlocks_k13_rings_apart
set_option Elab.async false
section
set_option linter.all false
set_option maxRecDepth 100000
set_option maxHeartbeats 2000000
/-! GL: readings over values without addresses (data D), over the hand layer. -/
namespace GL
open PySem L2
/-- data -/
inductive D where
  | non | bl (b : Bool) | int (i : Int) | str (x : Str)
  | lst (xs : List D) | tup (xs : List D)
  | dic (ks : List Key) (xs : List D)
  | obj (C : Addr) (ns : List Str) (xs : List D)
  | dit (ks : List (List Key)) (xs : List D)
mutual
inductive Dv (H : Hp) : V → D → Prop
  | non : Dv H .non .non
  | bl (b : Bool) : Dv H (.bl b) (.bl b)
  | int (i : Int) : Dv H (.int i) (.int i)
  | str (x : Str) : Dv H (.str x) (.str x)
  | lst {a : Addr} {vs : List V} {xs : List D} : H a = some (.lst vs) → DvAll H vs xs → Dv H (.ref a) (.lst xs)
  | tup {a : Addr} {vs : List V} {xs : List D} : H a = some (.tup vs) → DvAll H vs xs → Dv H (.ref a) (.tup xs)
  | dic {a : Addr} {kvs : List (Key × V)} {vs : List V} {ks : List Key} {xs : List D} : H a = some (.dK kvs) → kvs.map (·.1) = ks → kvs.map (·.2) = vs → DvAll H vs xs → Dv H (.ref a) (.dic ks xs)
  | obj {a C dx : Addr} {fs : List (Str × V)} {vs : List V} {ns : List Str} {xs : List D} : H a = some (.ins C dx fs) → fs.map (·.1) = ns → fs.map (·.2) = vs → DvAll H vs xs → Dv H (.ref a) (.obj C ns xs)
  | dit {a : Addr} {kvs : List (List Key × V)} {vs : List V} {ks : List (List Key)} {xs : List D} : H a = some (.dT kvs) → kvs.map (·.1) = ks → kvs.map (·.2) = vs → DvAll H vs xs → Dv H (.ref a) (.dit ks xs)
inductive DvAll (H : Hp) : List V → List D → Prop
  | nil : DvAll H [] []
  | cons {v : V} {vs : List V} {d : D} {ds : List D} : Dv H v d → DvAll H vs ds → DvAll H (v :: vs) (d :: ds)
end
mutual
theorem Dv.mono {H H' : Hp} (e : Same H H') : ∀ {v : V} {d : D}, Dv H v d → Dv H' v d
  | _, _, .non => .non
  | _, _, .bl b => .bl b
  | _, _, .int i => .int i
  | _, _, .str x => .str x
  | _, _, .lst h k => .lst (e _ _ h) (DvAll.mono e k)
  | _, _, .tup h k => .tup (e _ _ h) (DvAll.mono e k)
  | _, _, .dic h h1 h2 k => .dic (e _ _ h) h1 h2 (DvAll.mono e k)
  | _, _, .obj h h1 h2 k => .obj (e _ _ h) h1 h2 (DvAll.mono e k)
  | _, _, .dit h h1 h2 k => .dit (e _ _ h) h1 h2 (DvAll.mono e k)
theorem DvAll.mono {H H' : Hp} (e : Same H H') : ∀ {vs : List V} {ds : List D}, DvAll H vs ds → DvAll H' vs ds
  | _, _, .nil => .nil
  | _, _, .cons h k => .cons (Dv.mono e h) (DvAll.mono e k)
end
section
variable {H : Hp}
theorem DvAll.length : ∀ {vs : List V} {ds : List D}, DvAll H vs ds → vs.length = ds.length
  | _, _, .nil => rfl
  | _, _, .cons _ k => by rw [List.length_cons, List.length_cons, k.length]
theorem DvAll.append : ∀ {vs ws : List V} {ds es : List D}, DvAll H vs ds → DvAll H ws es → DvAll H (vs ++ ws) (ds ++ es)
  | _, _, _, _, .nil, s => s
  | _, _, _, _, .cons r t, s => .cons r (DvAll.append t s)
theorem DvAll.get : ∀ {vs : List V} {ds : List D} {i : Nat} {d : D}, DvAll H vs ds → ds[i]? = some d → ∃ v, vs[i]? = some v ∧ Dv H v d
  | _, _, _, _, .nil, e => by simp at e
  | _, _, 0, _, .cons r _, e => by simp at e; subst e; exact ⟨_, rfl, r⟩
  | _, _, i + 1, _, .cons _ t, e => by
    obtain ⟨v, h1, h2⟩ := DvAll.get (i := i) t (by simpa using e)
    exact ⟨v, by simpa using h1, h2⟩
theorem DvAll.getV : ∀ {vs : List V} {ds : List D} {i : Nat} {v : V}, DvAll H vs ds → vs[i]? = some v → ∃ d, ds[i]? = some d ∧ Dv H v d
  | _, _, _, _, .nil, e => by simp at e
  | _, _, 0, _, .cons r _, e => by simp at e; subst e; exact ⟨_, rfl, r⟩
  | _, _, i + 1, _, .cons _ t, e => by
    obtain ⟨v, h1, h2⟩ := DvAll.getV (i := i) t (by simpa using e)
    exact ⟨v, by simpa using h1, h2⟩
theorem DvAll.take : ∀ {vs : List V} {ds : List D} (n : Nat), DvAll H vs ds → DvAll H (vs.take n) (ds.take n)
  | _, _, 0, _ => .nil
  | _, _, _ + 1, .nil => .nil
  | _, _, n + 1, .cons r t => .cons r (DvAll.take n t)
theorem DvAll.drop : ∀ {vs : List V} {ds : List D} (n : Nat), DvAll H vs ds → DvAll H (vs.drop n) (ds.drop n)
  | _, _, 0, r => r
  | _, _, _ + 1, .nil => .nil
  | _, _, n + 1, .cons _ t => DvAll.drop n t
theorem DvAll.eraseIdx : ∀ {vs : List V} {ds : List D} (i : Nat), DvAll H vs ds → DvAll H (vs.eraseIdx i) (ds.eraseIdx i)
  | _, _, _, .nil => by simpa using DvAll.nil
  | _, _, 0, .cons _ t => by simpa using t
  | _, _, i + 1, .cons r t => by simpa using DvAll.cons r (DvAll.eraseIdx i t)
theorem DvAll.reverse {vs : List V} {ds : List D} (h : DvAll H vs ds) : DvAll H vs.reverse ds.reverse := by
  induction vs generalizing ds with
  | nil => cases h; exact .nil
  | cons v vs ih =>
    cases h with
    | cons r t => rw [List.reverse_cons, List.reverse_cons]; exact (ih t).append (.cons r .nil)
theorem DvAll.dropLast {vs : List V} {ds : List D} (h : DvAll H vs ds) : DvAll H vs.dropLast ds.dropLast := by
  rw [List.dropLast_eq_take, List.dropLast_eq_take, h.length]; exact h.take _
theorem DvAll.rep {vs : List V} {ds : List D} (h : DvAll H vs ds) : ∀ k : Nat, DvAll H (List.replicate k vs).flatten (List.replicate k ds).flatten
  | 0 => .nil
  | k + 1 => by simpa [List.replicate_succ] using h.append (DvAll.rep h k)
theorem DvAll.ints : ∀ {ns : List Int}, DvAll H (ns.map V.int) (ns.map D.int)
  | [] => .nil
  | _ :: _ => .cons (.int _) DvAll.ints
theorem DvAll.strs : ∀ {ns : List Str}, DvAll H (ns.map V.str) (ns.map D.str)
  | [] => .nil
  | _ :: _ => .cons (.str _) DvAll.strs
theorem DvAll.strs_of : ∀ {vs : List V} {ns : List Str}, DvAll H vs (ns.map D.str) → vs = ns.map V.str
  | _, [], h => by cases h; rfl
  | _, n :: r, h => by
    cases h with
    | cons a t => cases a; rw [DvAll.strs_of t]; rfl
theorem DvAll.bls_of : ∀ {vs : List V} {ns : List Bool}, DvAll H vs (ns.map D.bl) → vs = ns.map V.bl
  | _, [], h => by cases h; rfl
  | _, n :: r, h => by
    cases h with
    | cons a t => cases a; rw [DvAll.bls_of t]; rfl
end
/-! ### draws -/
structure Dr where
  a : Addr
  g : Addr
  c : Addr
  cs : List Int
  ne : g ≠ c
def drKvs (x : Dr) (rest turn : Int) : List (Key × V) := [(Sum.inr "great", .ref x.g), (Sum.inr "rest", .int rest), (Sum.inr "cells", .ref x.c), (Sum.inr "turn", .int turn)]
/-- the state of the draws -/
def DrOk (H : Hp) (x : Dr) : Prop := ∃ (rest turn : Int) (gs : List Int), H x.a = some (.dK (drKvs x rest turn)) ∧ H x.g = some (.lst (gs.map V.int)) ∧ H x.c = some (.lst (x.cs.map V.int))
/-- the tables of code objects (a def that makes lambdas fills its own) -/
class TabCx where
  ts : List (Addr × Str)
variable [TabCx]
def Out (dr : Option Dr) (p : Addr) : Prop := (∀ x, dr = some x → p ≠ x.a ∧ p ≠ x.g ∧ p ≠ x.c) ∧ ∀ t ∈ TabCx.ts, p ≠ t.1
open Classical in
/-- what neither the draws nor the tables hold -/
noncomputable def hide (dr : Option Dr) (H : Hp) : Hp := fun a => if Out dr a then H a else none
theorem hide_out {dr : Option Dr} {H : Hp} {a : Addr} (h : Out dr a) : hide dr H a = H a := by
  unfold hide
  rw [if_pos h]
theorem hide_some {dr : Option Dr} {H : Hp} {a : Addr} {o : HO} (h : hide dr H a = some o) : H a = some o ∧ Out dr a := by
  unfold hide at h
  by_cases e : Out dr a
  · rw [if_pos e] at h; exact ⟨h, e⟩
  · rw [if_neg e] at h; cases h
theorem hide_mk {dr : Option Dr} {H : Hp} {a : Addr} {o : HO} (h : H a = some o) (k : Out dr a) : hide dr H a = some o := by rw [hide_out k]; exact h
/-- H0: what stands still for good; H: all that is tracked -/
structure Bas (dr : Option Dr) (H0 H : Hp) : Prop where
  ex : Same H0 H
  dw : ∀ x, dr = some x → DrOk H x
  tb : ∀ t ∈ TabCx.ts, LamX.TabS H t.1 t.2
  fr : ∀ a o, H0 a = some o → Out dr a
structure Step (dr : Option Dr) (H0 H H0' H' : Hp) : Prop where
  e0 : Same H0 H0'
  e1 : Same (hide dr H) H'
  nw : ∀ a o, Out dr a → H0' a = some o → H0 a = some o ∨ H a = none
theorem Step.same {dr : Option Dr} {H0 H H0' H' : Hp} (s : Step dr H0 H H0' H') {a : Addr} {o : HO} (h : H a = some o) (k : Out dr a) : H' a = some o := s.e1 a o (hide_mk h k)
theorem Step.refl {dr : Option Dr} {H0 H : Hp} : Step dr H0 H H0 H := ⟨Same.refl _, fun _ _ h => (hide_some h).1, fun _ _ _ h => .inl h⟩
theorem Step.free {dr : Option Dr} {H0 H H0' H' : Hp} (s : Step dr H0 H H0' H') {a : Addr} (h : H' a = none) (k : Out dr a) : H a = none := by
  cases q : H a with
  | none => rfl
  | some o => rw [s.same q k] at h; cases h
theorem Step.trans {dr : Option Dr} {A0 A B0 B C0 C : Hp} (s : Step dr A0 A B0 B) (t : Step dr B0 B C0 C) : Step dr A0 A C0 C where
  e0 := s.e0.trans t.e0
  e1 := fun a o h => t.same (s.e1 a o h) (hide_some h).2
  nw := fun a o k h => by
    rcases t.nw a o k h with h | h
    · exact s.nw a o k h
    · exact .inr (s.free h k)
theorem Step.hid {dr : Option Dr} {H0 H H0' H' : Hp} (s : Step dr H0 H H0' H') : Same (hide dr H) (hide dr H') := fun a o h => hide_mk (s.e1 a o h) (hide_some h).2
theorem Bas.hid {dr : Option Dr} {H0 H : Hp} (b : Bas dr H0 H) : Same H0 (hide dr H) := fun a o h => hide_mk (b.ex a o h) (b.fr a o h)
/-- what is not tracked is none of the draw's, none of the tables -/
theorem Bas.out {dr : Option Dr} {H0 H : Hp} (b : Bas dr H0 H) {p : Addr} (h : H p = none) : Out dr p := by
  refine ⟨fun x e => ?_, fun t ht q => ?_⟩
  · obtain ⟨rest, turn, gs, h1, h2, h3⟩ := b.dw x e
    refine ⟨fun q => ?_, fun q => ?_, fun q => ?_⟩
    · rw [q, h1] at h; cases h
    · rw [q, h2] at h; cases h
    · rw [q, h3] at h; cases h
  · obtain ⟨ps, h1, _⟩ := b.tb t ht
    rw [q, h1] at h; cases h
theorem DrOk.same {H H' : Hp} {x : Dr} (h : DrOk H x) (k : ∀ a, a = x.a ∨ a = x.g ∨ a = x.c → H' a = H a) : DrOk H' x := by
  obtain ⟨rest, turn, gs, h1, h2, h3⟩ := h
  exact ⟨rest, turn, gs, (k _ (.inl rfl)).trans h1, (k _ (.inr (.inl rfl))).trans h2, (k _ (.inr (.inr rfl))).trans h3⟩
theorem DrOk.upd {H : Hp} {x : Dr} {p : Addr} {o : HO} (h : DrOk H x) (k : p ≠ x.a ∧ p ≠ x.g ∧ p ≠ x.c) : DrOk (upd H p o) x := h.same fun a ha => by
  obtain ⟨h1, h2, h3⟩ := k
  refine upd_ne ?_
  rcases ha with e | e | e <;> (subst e; intro q)
  · exact h1 q.symm
  · exact h2 q.symm
  · exact h3 q.symm
/-- what may be overwritten: nothing, a list, a dict, an instance, a thing of one's own that is no code object -/
def Soft : Option HO → Prop
  | none => True
  | some (.lst _) => True
  | some (.dK _) => True
  | some (.ins _ _ _) => True
  | some (.ext φ) => ∀ c q, HO.ext φ ≠ LamX.CodeO c q
  | _ => False
theorem tabS_upd {H : Hp} {t : Addr × Str} {p : Addr} {o : HO} (h : LamX.TabS H t.1 t.2) (k : p ≠ t.1) (f : Soft (H p)) : LamX.TabS (upd H p o) t.1 t.2 := by
  obtain ⟨ps, h1, h2, h3⟩ := h
  refine ⟨ps, by rw [upd_ne k.symm]; exact h1, h2, fun pos cv hc => ?_⟩
  obtain ⟨c, e1, e2⟩ := h3 pos cv hc
  refine ⟨c, e1, ?_⟩
  rw [upd_ne]
  · exact e2
  · rintro rfl
    rw [e2] at f
    exact f _ _ rfl
/-- a new object is tracked, one of one's own changes -/
theorem Bas.upd {dr : Option Dr} {H0 H : Hp} (b : Bas dr H0 H) {p : Addr} {o : HO} (h : H0 p = none) (k : Out dr p) (f : Soft (H p)) : Bas dr H0 (upd H p o) :=
  ⟨fun a u e => by rw [upd_ne (ne_of_none e h)]; exact b.ex a u e, fun x e => (b.dw x e).upd (k.1 x e), fun t ht => tabS_upd (b.tb t ht) (k.2 t ht) f, b.fr⟩
theorem Bas.new {dr : Option Dr} {H0 H : Hp} (b : Bas dr H0 H) {p : Addr} {o : HO} (h : H p = none) : Bas dr H0 (L2.upd H p o) := b.upd (b.ex.free h) (b.out h) (by rw [h]; trivial)
theorem Step.new {dr : Option Dr} {H0 H : Hp} {p : Addr} {o : HO} (h : H p = none) : Step dr H0 H H0 (L2.upd H p o) :=
  ⟨Same.refl _, fun a u e => by rw [upd_ne (ne_of_none (hide_some e).1 h)]; exact (hide_some e).1, fun _ _ _ h => .inl h⟩
/-- a tracked thing is frozen -/
theorem Bas.frz {dr : Option Dr} {H0 H : Hp} (b : Bas dr H0 H) {p : Addr} {o : HO} (h : H p = some o) (k : Out dr p) : Bas dr (L2.upd H0 p o) H :=
  ⟨fun a u e => by
    by_cases q : a = p
    · subst q; rw [upd_same] at e; cases e; exact h
    · rw [upd_ne q] at e; exact b.ex a u e, b.dw, b.tb, fun a u e => by
    by_cases q : a = p
    · subst q; exact k
    · rw [upd_ne q] at e; exact b.fr a u e⟩
theorem Step.frz {dr : Option Dr} {H0 H H0' H' : Hp} (s : Step dr H0 H H0' H') {p : Addr} {o : HO} (h0 : H0' p = none) (h : H p = none) : Step dr H0 H (L2.upd H0' p o) H' :=
  ⟨fun a u e => by rw [upd_ne (ne_of_none (s.e0 a u e) h0)]; exact s.e0 a u e, s.e1, fun a u k e => by
    by_cases q : a = p
    · subst q; exact .inr h
    · rw [upd_ne q] at e; exact s.nw a u k e⟩
/-- a new object, frozen at once -/
theorem Step.newz {dr : Option Dr} {H0 H : Hp} {p : Addr} {o : HO} (h0 : H0 p = none) (h : H p = none) : Step dr H0 H (L2.upd H0 p o) (L2.upd H p o) := (Step.new h).frz h0 h
theorem Bas.newz {dr : Option Dr} {H0 H : Hp} (b : Bas dr H0 H) {p : Addr} {o : HO} (h : H p = none) : Bas dr (L2.upd H0 p o) (L2.upd H p o) := (b.new h).frz upd_same (b.out h)
theorem same_upd {H0 : Hp} {p : Addr} {o : HO} (h : H0 p = none) : Same H0 (L2.upd H0 p o) := fun a u e => by rw [upd_ne (ne_of_none e h)]; exact e
/-! ### expressions' values: data, a list or tuple that may be read, a list of one's own -/
inductive Z where
  | d (x : D) | bor (t : Bool) (xs : List D) | own (xs : List D) | drw
def Z.seq : Z → Option (Bool × List D)
  | .d (.lst xs) => some (false, xs)
  | .d (.tup xs) => some (true, xs)
  | .bor t xs => some (t, xs)
  | .own xs => some (false, xs)
  | _ => none
def Z.dat : Z → Option D
  | .d x => some x
  | .own xs => some (.lst xs)
  | _ => none
/-- a list or a tuple stands at p -/
def seqO (t : Bool) (vs : List V) : HO := if t then .tup vs else .lst vs
inductive Zv (dr : Option Dr) (Hs H0 H : Hp) : V → Z → Prop
  | d {v : V} {x : D} : Dv H0 v x → Zv dr Hs H0 H v (.d x)
  | bor {t : Bool} {p : Addr} {vs : List V} {xs : List D} : hide dr H p = some (seqO t vs) → DvAll H0 vs xs → Zv dr Hs H0 H (.ref p) (.bor t xs)
  | own {p : Addr} {vs : List V} {xs : List D} : H p = some (.lst vs) → DvAll H0 vs xs → H0 p = none → Out dr p → Hs p = none → Zv dr Hs H0 H (.ref p) (.own xs)
  | drw {x : Dr} : dr = some x → Zv dr Hs H0 H (.ref x.a) .drw
section
variable {dr : Option Dr} {Hs H0 H H0' H' : Hp} {v : V} {z : Z}
theorem Zv.step (s : Step dr H0 H H0' H') (h : Zv dr Hs H0 H v z) : Zv dr Hs H0' H' v z := by
  cases h with
  | d h => exact .d (h.mono s.e0)
  | bor h k => exact .bor (s.hid _ _ h) (k.mono s.e0)
  | own h k h0 o hs =>
    refine .own (s.same h o) (k.mono s.e0) ?_ o hs
    rename_i p vs xs
    cases q : H0' p with
    | none => rfl
    | some u =>
      rcases s.nw _ _ o q with e | e
      · rw [h0] at e; cases e
      · rw [h] at e; cases e
  | drw e => exact .drw e
theorem Zv.start {Ha : Hp} (k : ∀ p, Out dr p → Hs p = none → Ha p = none) (h : Zv dr Hs H0 H v z) : Zv dr Ha H0 H v z := by
  cases h with
  | d h => exact .d h
  | bor h k => exact .bor h k
  | own h k' h0 o hs => exact .own h k' h0 o (k _ o hs)
  | drw e => exact .drw e
theorem Zv.from {A0 A : Hp} (s : Step dr A0 A H0 H) (h : Zv dr H H0' H' v z) : Zv dr A H0' H' v z := h.start fun _ o n => s.free n o
/-- what is to be read -/
theorem Zv.seq {t : Bool} {xs : List D} (b : Bas dr H0 H) (h : Zv dr Hs H0 H v z) (e : z.seq = some (t, xs)) : ∃ p vs, v = .ref p ∧ hide dr H p = some (seqO t vs) ∧ DvAll H0 vs xs := by
  cases h with
  | d h =>
    cases h with
    | lst h k => cases e; exact ⟨_, _, rfl, b.hid _ _ h, k⟩
    | tup h k => cases e; exact ⟨_, _, rfl, b.hid _ _ h, k⟩
    | _ => cases e
  | bor h k => cases e; exact ⟨_, _, rfl, h, k⟩
  | own h k h0 o hs => cases e; exact ⟨_, _, rfl, hide_mk h o, k⟩
  | drw h => cases e
end
/-- where a def's exceptions are watched: its draws and the heaps that it began with -/
class XCx where
  act : Prop
  dr0 : Option Dr
  h0 : Hp
  h1 : Hp
  sb : act → Same h0 h1
@[reducible] def XCx.off : XCx := ⟨False, none, fun _ => none, fun _ => none, fun h => h.elim⟩
instance (priority := low) xcxOff : XCx := XCx.off
end GL
end
section
set_option linter.all false
set_option maxRecDepth 100000
set_option maxHeartbeats 2000000
namespace GL
open PySem L2
variable [TabCx] [XCx]
theorem Step.mut {dr : Option Dr} {A0 A H0 H : Hp} {p : Addr} {o : HO} (s : Step dr A0 A H0 H) (h : A p = none) : Step dr A0 A H0 (upd H p o) :=
  ⟨s.e0, fun a u e => by rw [upd_ne (ne_of_none (hide_some e).1 h)]; exact s.e1 a u e, s.nw⟩
/-! ### slots -/
inductive G where
  | d (x : D) | bor (t : Bool) (xs : List D) | own (xs : List D) | drw | scr (ns : List Int) | mk (a C : Addr) (ns : List Str) (xs : List D) | odc (ks : List Key) (xs : List D) | odt (ks : List (List Key)) (xs : List D) | frs (x : D)
abbrev Env := List (Option G)
/-- every list within is new since Hi -/
inductive Frl (Hi H0 : Hp) : V → Prop
  | atom {v : V} : (∀ a, v ≠ .ref a) → Frl Hi H0 v
  | lst {a : Addr} {vs : List V} : H0 a = some (.lst vs) → Hi a = none → (∀ v ∈ vs, Frl Hi H0 v) → Frl Hi H0 (.ref a)
  | tup {a : Addr} {vs : List V} : H0 a = some (.tup vs) → (∀ v ∈ vs, Frl Hi H0 v) → Frl Hi H0 (.ref a)
theorem Frl.mono {Hi H0 H0' : Hp} (e : Same H0 H0') {v : V} (h : Frl Hi H0 v) : Frl Hi H0' v := by
  induction h with
  | atom h => exact .atom h
  | lst h f _ ih => exact .lst (e _ _ h) f ih
  | tup h _ ih => exact .tup (e _ _ h) ih
inductive Gv (K : PySem.W.Frag) (dr : Option Dr) (Hi H0 H : Hp) : V → G → Prop
  | d {v : V} {x : D} : Dv H0 v x → Gv K dr Hi H0 H v (.d x)
  | bor {t : Bool} {p : Addr} {vs : List V} {xs : List D} : hide dr Hi p = some (seqO t vs) → hide dr H p = some (seqO t vs) → DvAll H0 vs xs → Gv K dr Hi H0 H (.ref p) (.bor t xs)
  | own {p : Addr} {vs : List V} {xs : List D} : H p = some (.lst vs) → DvAll H0 vs xs → H0 p = none → Out dr p → Hi p = none → Gv K dr Hi H0 H (.ref p) (.own xs)
  | drw {x : Dr} : dr = some x → Gv K dr Hi H0 H (.ref x.a) .drw
  | scr {a : Addr} {ns : List Int} : (∀ H', Same H0 H' → SqL K H' a (ns.map V.int)) → Gv K dr Hi H0 H (.ref a) (.scr ns)
  | mk {a dx C : Addr} {fs : List (Str × V)} {vs : List V} {ns : List Str} {xs : List D} : H a = some (.ins C dx fs) → fs.map (·.1) = ns → fs.map (·.2) = vs → DvAll H0 vs xs → H0 a = none → Out dr a → Hi a = none → Gv K dr Hi H0 H (.ref a) (.mk a C ns xs)
  | odc {a : Addr} {kvs : List (Key × V)} {vs : List V} {ks : List Key} {xs : List D} : H a = some (.dK kvs) → kvs.map (·.1) = ks → kvs.map (·.2) = vs → DvAll H0 vs xs → H0 a = none → Out dr a → Hi a = none → Gv K dr Hi H0 H (.ref a) (.odc ks xs)
  | odt {a : Addr} {kvs : List (List Key × V)} {vs : List V} {ks : List (List Key)} {xs : List D} : H a = some (.dT kvs) → kvs.map (·.1) = ks → kvs.map (·.2) = vs → DvAll H0 vs xs → H0 a = none → Out dr a → Hi a = none → Gv K dr Hi H0 H (.ref a) (.odt ks xs)
  | frs {v : V} {x : D} : Dv H0 v x → Frl Hi H0 v → Gv K dr Hi H0 H v (.frs x)
structure Rs (K : PySem.W.Frag) (dr : Option Dr) (Hi H0 H : Hp) (σ : L2.St) (ρ : Env) : Prop where
  len : σ.length = ρ.length
  at_ : ∀ (i : Nat) (g : G), ρ[i]? = some (some g) → ∃ v, σ[i]? = some (some v) ∧ Gv K dr Hi H0 H v g
  dist : ∀ (i j : Nat) (p : Addr) (xs ys : List D), i ≠ j → ρ[i]? = some (some (.own xs)) → ρ[j]? = some (some (.own ys)) → σ[i]? = some (some (.ref p)) → σ[j]? ≠ some (some (.ref p))
  xs : XCx.act → dr = XCx.dr0 ∧ Step dr XCx.h0 XCx.h1 H0 H
  hx : ∀ p, XCx.act → Hi p = none → XCx.h1 p = none
section
variable {K : PySem.W.Frag} {dr : Option Dr} {Hi H0 H H0' H' : Hp} {σ : L2.St} {ρ : Env} {v : V} {g : G}
theorem Gv.step (s : Step dr H0 H H0' H') (h : Gv K dr Hi H0 H v g) : Gv K dr Hi H0' H' v g := by
  cases h with
  | d h => exact .d (h.mono s.e0)
  | bor h h' k => exact .bor h (s.hid _ _ h') (k.mono s.e0)
  | own h k h0 o hi =>
    refine .own (s.same h o) (k.mono s.e0) ?_ o hi
    rename_i p vs xs
    cases q : H0' p with
    | none => rfl
    | some u =>
      rcases s.nw _ _ o q with e | e
      · rw [h0] at e; cases e
      · rw [h] at e; cases e
  | drw e => exact .drw e
  | frs h f => exact .frs (h.mono s.e0) (f.mono s.e0)
  | scr h => exact .scr fun H' q => h H' (s.e0.trans q)
  | mk h h1 h2 k h0 o hi =>
    refine .mk (s.same h o) h1 h2 (k.mono s.e0) ?_ o hi
    rename_i p dx C fs vs ns xs
    cases q : H0' p with
    | none => rfl
    | some u =>
      rcases s.nw _ _ o q with e | e
      · rw [h0] at e; cases e
      · rw [h] at e; cases e
  | odc h h1 h2 k h0 o hi =>
    refine .odc (s.same h o) h1 h2 (k.mono s.e0) ?_ o hi
    rename_i p kvs vs ks xs
    cases q : H0' p with
    | none => rfl
    | some u =>
      rcases s.nw _ _ o q with e | e
      · rw [h0] at e; cases e
      · rw [h] at e; cases e
  | odt h h1 h2 k h0 o hi =>
    refine .odt (s.same h o) h1 h2 (k.mono s.e0) ?_ o hi
    rename_i p kvs vs ks xs
    cases q : H0' p with
    | none => rfl
    | some u =>
      rcases s.nw _ _ o q with e | e
      · rw [h0] at e; cases e
      · rw [h] at e; cases e
theorem Rs.step (s : Step dr H0 H H0' H') (r : Rs K dr Hi H0 H σ ρ) : Rs K dr Hi H0' H' σ ρ :=
  ⟨r.len, fun i g e => let ⟨v, h, k⟩ := r.at_ i g e; ⟨v, h, k.step s⟩, r.dist, fun a => ⟨(r.xs a).1, (r.xs a).2.trans s⟩, r.hx⟩
def wipeG (ρ : Env) : List Nat → Env
  | [] => ρ
  | v :: vs => (wipeG ρ vs).set v none
theorem wipeG_length (ρ : Env) : ∀ vs : List Nat, (wipeG ρ vs).length = ρ.length
  | [] => rfl
  | v :: vs => by unfold wipeG; rw [List.length_set, wipeG_length ρ vs]
/-- a slot forgotten -/
theorem Rs.forget (r : Rs K dr Hi H0 H σ ρ) (i : Nat) : Rs K dr Hi H0 H (σ.set i none) (ρ.set i none) := by
  refine ⟨by rw [List.length_set, List.length_set, r.len], fun j g e => ?_, fun j k p xs ys n e1 e2 e3 => ?_, r.xs, r.hx⟩
  · by_cases h : i = j
    · subst h
      by_cases hl : i < ρ.length
      · rw [List.getElem?_set_self hl] at e; cases e
      · rw [List.getElem?_eq_none (by simpa using hl)] at e; cases e
    · rw [List.getElem?_set_ne h] at e ⊢
      exact r.at_ j g e
  · have hj : i ≠ j := by
      rintro rfl
      by_cases hl : i < ρ.length
      · rw [List.getElem?_set_self hl] at e1; cases e1
      · rw [List.getElem?_eq_none (by simpa using hl)] at e1; cases e1
    have hk : i ≠ k := by
      rintro rfl
      by_cases hl : i < ρ.length
      · rw [List.getElem?_set_self hl] at e2; cases e2
      · rw [List.getElem?_eq_none (by simpa using hl)] at e2; cases e2
    rw [List.getElem?_set_ne hj] at e1 e3
    rw [List.getElem?_set_ne hk] at e2 ⊢
    exact r.dist j k p xs ys n e1 e2 e3
theorem Rs.wipe (r : Rs K dr Hi H0 H σ ρ) : ∀ vs : List Nat, Rs K dr Hi H0 H (wipe σ vs) (wipeG ρ vs)
  | [] => r
  | v :: vs => (Rs.wipe r vs).forget v
/-- a slot takes a value that no list of one's own shares -/
theorem Rs.set (r : Rs K dr Hi H0 H σ ρ) (i : Nat) (h : Gv K dr Hi H0 H v g) (n : ∀ xs, g = .own xs → ∀ (j : Nat) (p : Addr) (ys : List D), v = .ref p → ρ[j]? = some (some (.own ys)) → σ[j]? ≠ some (some (.ref p))) : Rs K dr Hi H0 H (σ.set i (some v)) (ρ.set i (some g)) := by
  refine ⟨by rw [List.length_set, List.length_set, r.len], fun j g' e => ?_, fun j k p xs ys ne e1 e2 e3 => ?_, r.xs, r.hx⟩
  · by_cases hj : i = j
    · subst hj
      by_cases hl : i < ρ.length
      · rw [List.getElem?_set_self hl] at e
        cases e
        exact ⟨v, List.getElem?_set_self (by rw [r.len]; exact hl), h⟩
      · rw [List.getElem?_eq_none (by simpa using hl)] at e; cases e
    · rw [List.getElem?_set_ne hj] at e ⊢
      exact r.at_ j g' e
  · by_cases hj : i = j
    · subst hj
      have hl : i < ρ.length := by
        by_cases hl : i < ρ.length
        · exact hl
        · rw [List.getElem?_eq_none (by simpa using hl)] at e1; cases e1
      rw [List.getElem?_set_self hl] at e1
      rw [List.getElem?_set_self (by rw [r.len]; exact hl)] at e3
      rw [List.getElem?_set_ne ne] at e2 ⊢
      exact n xs (Option.some.inj (Option.some.inj e1)) k p ys (Option.some.inj (Option.some.inj e3)) e2
    · rw [List.getElem?_set_ne hj] at e1 e3
      by_cases hk : i = k
      · subst hk
        have hl : i < ρ.length := by
          by_cases hl : i < ρ.length
          · exact hl
          · rw [List.getElem?_eq_none (by simpa using hl)] at e2; cases e2
        rw [List.getElem?_set_self hl] at e2
        rw [List.getElem?_set_self (by rw [r.len]; exact hl)]
        intro e4
        exact n ys (Option.some.inj (Option.some.inj e2)) j p xs (Option.some.inj (Option.some.inj e4)) e1 e3
      · rw [List.getElem?_set_ne hk] at e2 ⊢
        exact r.dist j k p xs ys ne e1 e2 e3
theorem Rs.setD (r : Rs K dr Hi H0 H σ ρ) (i : Nat) {x : D} (h : Dv H0 v x) : Rs K dr Hi H0 H (σ.set i (some v)) (ρ.set i (some (.d x))) := r.set i (.d h) fun _ e => nomatch e
/-- a list of one's own, new -/
theorem Rs.setO (r : Rs K dr Hi H0 H σ ρ) (i : Nat) {p : Addr} {vs : List V} {xs : List D} {A : Hp} (h : H p = some (.lst vs)) (k : DvAll H0 vs xs) (h0 : H0 p = none) (o : Out dr p) (hi : Hi p = none)
    (fr : ∀ (j : Nat) (ys : List D), ρ[j]? = some (some (.own ys)) → σ[j]? ≠ some (some (.ref p))) : Rs K dr Hi H0 H (σ.set i (some (.ref p))) (ρ.set i (some (.own xs))) :=
  r.set i (.own h k h0 o hi) fun _ _ j q ys e => by cases e; exact fr j ys
/-- the list of one's own in slot i changes -/
theorem Rs.mut (r : Rs K dr Hi H0 H σ ρ) {i : Nat} {p : Addr} {xs ys : List D} {ws : List V} (hi : ρ[i]? = some (some (.own xs))) (hp : σ[i]? = some (some (.ref p))) (k : DvAll H0 ws ys) : Rs K dr Hi H0 (upd H p (.lst ws)) σ (ρ.set i (some (.own ys))) := by
  have hl : i < ρ.length := by
    by_cases hl : i < ρ.length
    · exact hl
    · rw [List.getElem?_eq_none (by simpa using hl)] at hi; cases hi
  have h1p : XCx.act → XCx.h1 p = none := fun a => by
    obtain ⟨v', hv', gv'⟩ := r.at_ i _ hi
    rw [hp] at hv'; cases hv'
    cases gv' with
    | own _ _ _ _ e => exact r.hx p a e
  refine ⟨by rw [List.length_set, r.len], fun j g' e => ?_, fun j k p xs ys ne e1 e2 e3 => ?_, fun a => ⟨(r.xs a).1, (r.xs a).2.mut (h1p a)⟩, r.hx⟩
  · by_cases hj : i = j
    · subst hj
      rw [List.getElem?_set_self hl] at e
      cases e
      obtain ⟨v, hv, gv⟩ := r.at_ i _ hi
      rw [hp] at hv; cases hv
      cases gv with
      | own a b c d e => exact ⟨_, hp, .own upd_same k c d e⟩
    · rw [List.getElem?_set_ne hj] at e
      obtain ⟨v, hv, gv⟩ := r.at_ j _ e
      refine ⟨v, hv, ?_⟩
      have d0 : Hi p = none := by
        obtain ⟨v', hv', gv'⟩ := r.at_ i _ hi
        rw [hp] at hv'; cases hv'
        cases gv' with
        | own a b c d e => exact e
      cases gv with
      | d h => exact .d h
      | bor h h' k => exact .bor h (hide_mk (by rw [upd_ne (by rintro rfl; rw [(hide_some h).1] at d0; cases d0)]; exact (hide_some h').1) (hide_some h').2) k
      | drw h => exact .drw h
      | scr h => exact .scr h
      | frs h f => exact .frs h f
      | mk h h1 h2 k h0 o hi' =>
        refine .mk (Eq.trans (upd_ne ?_) h) h1 h2 k h0 o hi'
        · rintro rfl
          obtain ⟨v', hv', gv'⟩ := r.at_ i _ hi
          rw [hp] at hv'; cases hv'
          cases gv' with
          | own a b c d e => rw [h] at a; cases a
      | odc h h1 h2 k h0 o hi' =>
        refine .odc (Eq.trans (upd_ne ?_) h) h1 h2 k h0 o hi'
        · rintro rfl
          obtain ⟨v', hv', gv'⟩ := r.at_ i _ hi
          rw [hp] at hv'; cases hv'
          cases gv' with
          | own a b c d e => rw [h] at a; cases a
      | odt h h1 h2 k h0 o hi' =>
        refine .odt (Eq.trans (upd_ne ?_) h) h1 h2 k h0 o hi'
        · rintro rfl
          obtain ⟨v', hv', gv'⟩ := r.at_ i _ hi
          rw [hp] at hv'; cases hv'
          cases gv' with
          | own a b c d e => rw [h] at a; cases a
      | own a b c d f =>
        refine .own ?_ b c d f
        rw [upd_ne]
        · exact a
        · rintro rfl
          exact r.dist i j _ _ _ hj hi e hp hv
  · have get : ∀ (m : Nat) (zs : List D), (ρ.set i (some (.own ys)))[m]? = some (some (.own zs)) → ∃ zs', ρ[m]? = some (some (G.own zs')) := fun m zs e => by
      by_cases hm : i = m
      · subst hm; exact ⟨_, hi⟩
      · rw [List.getElem?_set_ne hm] at e; exact ⟨_, e⟩
    rename_i xs' ys'
    have h1 : ∃ zs', ρ[j]? = some (some (G.own zs')) := by
      by_cases hm : i = j
      · subst hm; exact ⟨_, hi⟩
      · rw [List.getElem?_set_ne hm] at e1; exact ⟨_, e1⟩
    have h2 : ∃ zs', ρ[k]? = some (some (G.own zs')) := by
      by_cases hm : i = k
      · subst hm; exact ⟨_, hi⟩
      · rw [List.getElem?_set_ne hm] at e2; exact ⟨_, e2⟩
    obtain ⟨z1, h1⟩ := h1
    obtain ⟨z2, h2⟩ := h2
    exact r.dist j k p z1 z2 ne h1 h2 e3
end
/-! ### readings -/
abbrev GM := Env → (Z → Prop) → Prop
abbrev GMD := Env → (D → Prop) → Prop
abbrev GMT := Env → (Bool → Prop) → Prop
abbrev GMA := Env → (List Z → Prop) → Prop
abbrev GML := Env → (List D → Prop) → Prop
def SndE (K : PySem.W.Frag) (t : TE) (m : GM) : Prop := ∀ (dr : Option Dr) (Hi : Hp) (σ : L2.St) (ρ : Env) (H0 H : Hp) (Q : VK) (P : Z → Prop), Bas dr H0 H → Rs K dr Hi H0 H σ ρ → m ρ P →
  (∀ v z H0' H', Bas dr H0' H' → Step dr H0 H H0' H' → Zv dr H H0' H' v z → P z → Q v H') → t σ H Q
def SndD (K : PySem.W.Frag) (t : TE) (m : GMD) : Prop := ∀ (dr : Option Dr) (Hi : Hp) (σ : L2.St) (ρ : Env) (H0 H : Hp) (Q : VK) (P : D → Prop), Bas dr H0 H → Rs K dr Hi H0 H σ ρ → m ρ P →
  (∀ v z H0' H', Bas dr H0' H' → Step dr H0 H H0' H' → Dv H0' v z → P z → Q v H') → t σ H Q
def SndT (K : PySem.W.Frag) (t : TT) (m : GMT) : Prop := ∀ (dr : Option Dr) (Hi : Hp) (σ : L2.St) (ρ : Env) (H0 H : Hp) (Q : Bool → Hp → Prop) (P : Bool → Prop), Bas dr H0 H → Rs K dr Hi H0 H σ ρ → m ρ P →
  (∀ b H0' H', Bas dr H0' H' → Step dr H0 H H0' H' → P b → Q b H') → t σ H Q
inductive ZvAll (dr : Option Dr) (Hs H0 H : Hp) : List V → List Z → Prop
  | nil : ZvAll dr Hs H0 H [] []
  | cons {v : V} {vs : List V} {z : Z} {zs : List Z} : Zv dr Hs H0 H v z → ZvAll dr Hs H0 H vs zs → ZvAll dr Hs H0 H (v :: vs) (z :: zs)
theorem ZvAll.from {dr : Option Dr} {A0 A H0 H H0' H' : Hp} (s : Step dr A0 A H0 H) : ∀ {vs : List V} {zs : List Z}, ZvAll dr H H0' H' vs zs → ZvAll dr A H0' H' vs zs
  | _, _, .nil => .nil
  | _, _, .cons h t => .cons (h.from s) (ZvAll.from s t)
def SndA (K : PySem.W.Frag) (t : TA) (m : GMA) : Prop := ∀ (dr : Option Dr) (Hi : Hp) (σ : L2.St) (ρ : Env) (H0 H : Hp) (Q : List V → Hp → Prop) (P : List Z → Prop), Bas dr H0 H → Rs K dr Hi H0 H σ ρ → m ρ P →
  (∀ vs zs H0' H', Bas dr H0' H' → Step dr H0 H H0' H' → ZvAll dr H H0' H' vs zs → P zs → Q vs H') → t σ H Q
def SndL (K : PySem.W.Frag) (t : TA) (m : GML) : Prop := ∀ (dr : Option Dr) (Hi : Hp) (σ : L2.St) (ρ : Env) (H0 H : Hp) (Q : List V → Hp → Prop) (P : List D → Prop), Bas dr H0 H → Rs K dr Hi H0 H σ ρ → m ρ P →
  (∀ vs xs H0' H', Bas dr H0' H' → Step dr H0 H H0' H' → DvAll H0' vs xs → P xs → Q vs H') → t σ H Q
structure GE (X : Cx) (e : Expr) (t : TE) (m : GM) : Prop where
  pe : PE X e t
  sn : SndE X.K t m
structure GD (X : Cx) (e : Expr) (t : TE) (m : GMD) : Prop where
  pe : PE X e t
  sn : SndD X.K t m
structure GT (X : Cx) (e : Expr) (t : TT) (m : GMT) : Prop where
  pt : PT X e t
  sn : SndT X.K t m
structure GA (X : Cx) (es : List Expr) (t : TA) (m : GMA) : Prop where
  pa : PA X es t
  sn : SndA X.K t m
structure GLs (X : Cx) (es : List Expr) (t : TA) (m : GML) : Prop where
  pa : PA X es t
  sn : SndL X.K t m
section
variable {X : Cx} {e a b : Expr} {es : List Expr} {t ta tb : TE} {m ma mb : GM} {pos : Pos}
/-- as data -/
def mDat (m : GM) : GMD := fun ρ P => m ρ fun z => ∃ x, z.dat = some x ∧ P x
theorem snd_dat {K : PySem.W.Frag} (h : SndE K t m) : SndD K t (mDat m) := fun dr Hi σ ρ H0 H Q P B R w k => h dr Hi σ ρ H0 H Q _ B R w fun v z H0' H' B' S zv ⟨x, hx, px⟩ => by
  cases zv with
  | d h => cases hx; exact k v _ H0' H' B' S h px
  | bor h k' => cases hx
  | own h k' h0 o hs =>
    cases hx
    exact k _ _ _ H' (B'.frz h o) (S.frz h0 hs) (.lst upd_same (k'.mono (same_upd h0))) px
  | drw e => cases hx
theorem gd (h : GE X e t m) : GD X e t (mDat m) := ⟨h.pe, snd_dat h.sn⟩
/-- names, constants -/
def G.z : G → Option Z
  | .d x => some (.d x)
  | .bor t xs => some (.bor t xs)
  | .own xs => some (.bor false xs)
  | .drw => some .drw
  | .frs x => some (.d x)
  | _ => none
def mVar (i : Nat) : GM := fun ρ P => ∃ g z, ρ[i]? = some (some g) ∧ g.z = some z ∧ P z
theorem snd_var {K : PySem.W.Frag} {i : Nat} : SndE K (tVar i) (mVar i) := fun dr Hi σ ρ H0 H Q P B R ⟨g, z, hg, hz, p⟩ k => by
  obtain ⟨v, hv, gv⟩ := R.at_ i g hg
  refine ⟨v, hv, k v z H0 H B .refl ?_ p⟩
  cases gv with
  | d h => cases hz; exact .d h
  | bor h h' k => cases hz; exact .bor h' k
  | own h k h0 o hi => cases hz; exact .bor (t := false) (hide_mk h o) k
  | drw e => cases hz; exact .drw e
  | scr h => cases hz
  | mk => cases hz
  | odc => cases hz
  | odt => cases hz
  | frs h => cases hz; exact .d h
theorem gv (i : Nat) {x : Str} (hN : X.N[i]? = some x := by rfl) (hv : Vis X.env.scope x := by first | exact Or.inl rfl | exact Or.inr (Or.inl rfl) | exact Or.inr (Or.inr rfl)) (hd : (x == ("__debug__" : Str)) = false := by decide)
    (hcd : (x == ("__classdict__" : Str)) = false := by decide) : GE X (.Name x pos) (tVar i) (mVar i) := ⟨pe_var hN hv hd hcd, snd_var⟩
def mC (x : D) : GM := fun _ P => P (.d x)
theorem snd_c {K : PySem.W.Frag} {v : V} {x : D} (h : ∀ H, Dv H v x) : SndE K (tC v) (mC x) := fun dr Hi σ ρ H0 H Q P B R p k => k v _ H0 H B .refl (.d (h H0)) p
theorem gi {i j} : GE X (.Constant (.int i) j pos) (tC (.int i)) (mC (.int i)) := ⟨pe_int, snd_c fun _ => .int i⟩
theorem gb {i j} : GE X (.Constant (.bool i) j pos) (tC (.bl i)) (mC (.bl i)) := ⟨pe_bl, snd_c fun _ => .bl i⟩
theorem gn {j} : GE X (.Constant .none j pos) (tC .non) (mC .non) := ⟨pe_non, snd_c fun _ => .non⟩
theorem gs {i j} : GE X (.Constant (.str i) j pos) (tC (.str i)) (mC (.str i)) := ⟨pe_str, snd_c fun _ => .str i⟩
theorem gc {v : V} {x : D} (h : PE X e (tC v)) (k : ∀ H, Dv H v x) : GE X e (tC v) (mC x) := ⟨h, snd_c k⟩
/-- the same reading, weaker -/
theorem GE.imp {m' : GM} (h : GE X e t m) (k : ∀ ρ P, m' ρ P → m ρ P) : GE X e t m' := ⟨h.pe, fun dr Hi σ ρ H0 H Q P B R w q => h.sn dr Hi σ ρ H0 H Q P B R (k ρ P w) q⟩
/-! ### operators by values -/
def OpS (r : R2) (f : Z → Z → (Z → Prop) → Prop) : Prop := ∀ (dr : Option Dr) (Hs Hs' H0 H : Hp) (x y : V) (zx zy : Z) (Q : VK) (P : Z → Prop), Bas dr H0 H → Zv dr Hs H0 H x zx → Zv dr Hs' H0 H y zy → f zx zy P →
  (∀ v z H0' H', Bas dr H0' H' → Step dr H0 H H0' H' → Zv dr H H0' H' v z → P z → Q v H') → r x y H Q
def mOp (f : Z → Z → (Z → Prop) → Prop) (ma mb : GM) : GM := fun ρ P => ma ρ fun x => mb ρ fun y => f x y P
theorem snd_op {K : PySem.W.Frag} {r : R2} {f : Z → Z → (Z → Prop) → Prop} (hs : OpS r f) (ha : SndE K ta ma) (hb : SndE K tb mb) : SndE K (tOp r ta tb) (mOp f ma mb) := fun dr Hi σ ρ H0 H Q P B R w k =>
  ha dr Hi σ ρ H0 H _ _ B R w fun x zx A0 A1 B1 S1 z1 w1 => hb dr Hi σ ρ A0 A1 _ _ B1 (R.step S1) w1 fun y zy C0 C1 B2 S2 z2 w2 =>
    hs dr H A1 C0 C1 x y zx zy Q P B2 (z1.step S2) z2 w2 fun v z E0 E1 B3 S3 z3 p => k v z E0 E1 B3 ((S1.trans S2).trans S3) (z3.from (S1.trans S2)) p
theorem ge_op {op : Operator} {r : R2} {f : Z → Z → (Z → Prop) → Prop} (ho : OpR X (binaryOp op) r) (hs : OpS r f) (ha : GE X a ta ma) (hb : GE X b tb mb) : GE X (.BinOp a op b pos) (tOp r ta tb) (mOp f ma mb) := ⟨pe_op ho ha.pe hb.pe, snd_op hs ha.sn hb.sn⟩
theorem ge_cmp {op : CmpOp} {r : R2} {f : Z → Z → (Z → Prop) → Prop} (ho : OpR X (compareOp op) r) (hs : OpS r f) (ha : GE X a ta ma) (hb : GE X b tb mb) (hm : behindInMarks op b = false) : GE X (.Compare a [op] [b] pos) (tOp r ta tb) (mOp f ma mb) := ⟨pe_cmpR ho ha.pe hb.pe hm, snd_op hs ha.sn hb.sn⟩
/-- a value that is True or False, as a test -/
def mTst (m : GM) : GMT := fun ρ P => m ρ fun z => ∃ b, z = .d (.bl b) ∧ P b
theorem snd_tst {K : PySem.W.Frag} (h : SndE K t m) : SndT K (tTest t) (mTst m) := fun dr Hi σ ρ H0 H Q P B R w k => h dr Hi σ ρ H0 H _ _ B R w fun v z A0 A1 B1 S1 z1 ⟨b, e, p⟩ => by
  subst e
  cases z1 with
  | d h => cases h; exact ⟨b, rfl, k b A0 A1 B1 S1 p⟩
theorem snd_tB {K : PySem.W.Frag} (h : SndE K t m) : SndT K (tB t) (mTst m) := fun dr Hi σ ρ H0 H Q P B R w k => h dr Hi σ ρ H0 H _ _ B R w fun v z A0 A1 B1 S1 z1 ⟨b, e, p⟩ => by
  subst e
  cases z1 with
  | d h => cases h; exact ⟨b, rfl, k b A0 A1 B1 S1 p⟩
theorem gt_cmp {op : CmpOp} {r : R2} {f : Z → Z → (Z → Prop) → Prop} (ho : OpR X (compareOp op) r) (hs : OpS r f) (ha : GE X a ta ma) (hb : GE X b tb mb) (hm : behindInMarks op b = false) : GT X (.Compare a [op] [b] pos) (tTest (tOp r ta tb)) (mTst (mOp f ma mb)) :=
  ⟨pt_cmpR ho ha.pe hb.pe hm, snd_tst (snd_op hs ha.sn hb.sn)⟩
theorem gt_val (h : GE X e t m) (he : ∀ whole, isTrue e X.env whole = (do let v ← whole; standAt e.pos; holding [v] (truthy v)) := by intro _; rfl) : GT X e (tB t) (mTst m) := ⟨pt_val h.pe he, snd_tB h.sn⟩
/-- a < b < c -/
def mChain (f f' : Z → Z → (Z → Prop) → Prop) (ma mb mc : GM) : GM := fun ρ P => ma ρ fun x => mb ρ fun y => f x y fun z => ∃ k, z = .d (.bl k) ∧ if k = true then mc ρ fun u => f' y u P else P (.d (.bl false))
/-! ### and, or, not, if -/
structure GW (X : Cx) (e : Expr) (t : TT) (m : GMT) : Prop where
  pw : PW X e t
  sn : SndT X.K t m
variable {c : Expr} {tc tA tB' : TT} {mc mA mB : GMT} {rest : List Expr}
theorem GW.gt (h : GW X e tA mA) : GT X e tA mA := ⟨h.pw.pt, h.sn⟩
def mAnd (ma mb : GMT) : GMT := fun ρ P => ma ρ fun c => if c = true then mb ρ P else P false
def mOr (ma mb : GMT) : GMT := fun ρ P => ma ρ fun c => if c = true then P true else mb ρ P
def mNot (ma : GMT) : GMT := fun ρ P => ma ρ fun c => P (!c)
theorem gw_and1 (h : GT X a tA mA) : GW X (.BoolOp .And [a] pos) tA mA := ⟨pw_and1 h.pt, h.sn⟩
theorem gw_or1 (h : GT X a tA mA) : GW X (.BoolOp .Or [a] pos) tA mA := ⟨pw_or1 h.pt, h.sn⟩
theorem gw_and (ha : GT X a tA mA) (hb : GW X (.BoolOp .And (b :: rest) pos) tB' mB) : GW X (.BoolOp .And (a :: b :: rest) pos) (tAnd tA tB') (mAnd mA mB) := ⟨pw_and ha.pt hb.pw, fun dr Hi σ ρ H0 H Q P B R w k =>
  ha.sn dr Hi σ ρ H0 H _ _ B R w fun c A0 A1 B1 S1 w1 => by
    cases c with
    | true => exact hb.sn dr Hi σ ρ A0 A1 _ _ B1 (R.step S1) w1 fun d C0 C1 B2 S2 p => k d C0 C1 B2 (S1.trans S2) p
    | false => exact k false A0 A1 B1 S1 w1⟩
theorem gw_or (ha : GT X a tA mA) (hb : GW X (.BoolOp .Or (b :: rest) pos) tB' mB) : GW X (.BoolOp .Or (a :: b :: rest) pos) (tOr tA tB') (mOr mA mB) := ⟨pw_or ha.pt hb.pw, fun dr Hi σ ρ H0 H Q P B R w k =>
  ha.sn dr Hi σ ρ H0 H _ _ B R w fun c A0 A1 B1 S1 w1 => by
    cases c with
    | false => exact hb.sn dr Hi σ ρ A0 A1 _ _ B1 (R.step S1) w1 fun d C0 C1 B2 S2 p => k d C0 C1 B2 (S1.trans S2) p
    | true => exact k true A0 A1 B1 S1 w1⟩
theorem gt_not (ha : GT X a tA mA) : GT X (.UnaryOp .Not a pos) (tNot tA) (mNot mA) := ⟨pt_not ha.pt, fun dr Hi σ ρ H0 H Q P B R w k => ha.sn dr Hi σ ρ H0 H _ _ B R w fun c A0 A1 B1 S1 w1 => k (!c) A0 A1 B1 S1 w1⟩
def mAndV (ma mb : GM) : GM := fun ρ P => ma ρ fun z => ∃ c, z = .d (.bl c) ∧ if c = true then mb ρ P else P (.d (.bl false))
def mOrV (ma mb : GM) : GM := fun ρ P => ma ρ fun z => ∃ c, z = .d (.bl c) ∧ if c = true then P (.d (.bl true)) else mb ρ P
def mNotV (ma : GM) : GM := fun ρ P => ma ρ fun z => ∃ c, z = .d (.bl c) ∧ P (.d (.bl (!c)))
theorem ge_one {op} (h : GE X a t m) : GE X (.BoolOp op [a] pos) t m := ⟨pe_one h.pe, h.sn⟩
theorem ge_and (ha : GE X a ta ma) (hb : GE X (.BoolOp .And (b :: rest) pos) tb mb) : GE X (.BoolOp .And (a :: b :: rest) pos) (tAndV ta tb) (mAndV ma mb) := ⟨pe_and ha.pe hb.pe, fun dr Hi σ ρ H0 H Q P B R w k =>
  ha.sn dr Hi σ ρ H0 H _ _ B R w fun x z A0 A1 B1 S1 z1 ⟨c, e, w1⟩ => by
    subst e
    cases z1 with
    | d h =>
      cases h
      refine ⟨c, rfl, ?_⟩
      cases c with
      | true => exact hb.sn dr Hi σ ρ A0 A1 _ _ B1 (R.step S1) w1 fun d z C0 C1 B2 S2 z2 p => k d z C0 C1 B2 (S1.trans S2) (z2.from S1) p
      | false => exact k _ _ A0 A1 B1 S1 (.d (.bl false)) w1⟩
theorem ge_or (ha : GE X a ta ma) (hb : GE X (.BoolOp .Or (b :: rest) pos) tb mb) : GE X (.BoolOp .Or (a :: b :: rest) pos) (tOrV ta tb) (mOrV ma mb) := ⟨pe_or ha.pe hb.pe, fun dr Hi σ ρ H0 H Q P B R w k =>
  ha.sn dr Hi σ ρ H0 H _ _ B R w fun x z A0 A1 B1 S1 z1 ⟨c, e, w1⟩ => by
    subst e
    cases z1 with
    | d h =>
      cases h
      refine ⟨c, rfl, ?_⟩
      cases c with
      | false => exact hb.sn dr Hi σ ρ A0 A1 _ _ B1 (R.step S1) w1 fun d z C0 C1 B2 S2 z2 p => k d z C0 C1 B2 (S1.trans S2) (z2.from S1) p
      | true => exact k _ _ A0 A1 B1 S1 (.d (.bl true)) w1⟩
theorem ge_not (ha : GE X a ta ma) : GE X (.UnaryOp .Not a pos) (tNotV ta) (mNotV ma) := ⟨pe_not ha.pe, fun dr Hi σ ρ H0 H Q P B R w k => ha.sn dr Hi σ ρ H0 H _ _ B R w fun x z A0 A1 B1 S1 z1 ⟨c, e, w1⟩ => by
  subst e
  cases z1 with
  | d h => cases h; exact ⟨c, rfl, k _ _ A0 A1 B1 S1 (.d (.bl _)) w1⟩⟩
def mIfE (mc : GMT) (ma mb : GM) : GM := fun ρ P => mc ρ fun c => if c = true then ma ρ P else mb ρ P
theorem ge_if (hc : GT X c tc mc) (ha : GE X a ta ma) (hb : GE X b tb mb) : GE X (.IfExp c a b pos) (tIf tc ta tb) (mIfE mc ma mb) := ⟨pe_ifExp hc.pt ha.pe hb.pe, fun dr Hi σ ρ H0 H Q P B R w k =>
  hc.sn dr Hi σ ρ H0 H _ _ B R w fun c A0 A1 B1 S1 w1 => by
    cases c with
    | true => exact ha.sn dr Hi σ ρ A0 A1 _ _ B1 (R.step S1) w1 fun d z C0 C1 B2 S2 z2 p => k d z C0 C1 B2 (S1.trans S2) (z2.from S1) p
    | false => exact hb.sn dr Hi σ ρ A0 A1 _ _ B1 (R.step S1) w1 fun d z C0 C1 B2 S2 z2 p => k d z C0 C1 B2 (S1.trans S2) (z2.from S1) p⟩
/-! ### lists of arguments, displays -/
variable {tl : TA} {mz : GMA} {ml : GML} {md : GMD}
def mANil : GMA := fun _ P => P []
def mACons (m : GM) (mr : GMA) : GMA := fun ρ P => m ρ fun z => mr ρ fun zs => P (z :: zs)
theorem ga_nil : GA X [] tNil mANil := ⟨pa_nil, fun dr Hi σ ρ H0 H Q P B R w k => k [] [] H0 H B .refl .nil w⟩
theorem ZvAll.step {dr : Option Dr} {Hs H0 H H0' H' : Hp} (s : Step dr H0 H H0' H') : ∀ {vs : List V} {zs : List Z}, ZvAll dr Hs H0 H vs zs → ZvAll dr Hs H0' H' vs zs
  | _, _, .nil => .nil
  | _, _, .cons h t => .cons (h.step s) (ZvAll.step s t)
theorem ga_cons (ha : GE X e t m) (hr : GA X es tl mz) (hs : starEach (e :: es) X.env = (false, eval e X.env) :: starEach es X.env := by rfl) : GA X (e :: es) (tCons t tl) (mACons m mz) := ⟨pa_cons ha.pe hr.pa hs, fun dr Hi σ ρ H0 H Q P B R w k =>
  ha.sn dr Hi σ ρ H0 H _ _ B R w fun x z A0 A1 B1 S1 z1 w1 => hr.sn dr Hi σ ρ A0 A1 _ _ B1 (R.step S1) w1 fun xs zs C0 C1 B2 S2 z2 w2 => k (x :: xs) (z :: zs) C0 C1 B2 (S1.trans S2) (.cons (z1.step S2) (z2.from S1)) w2⟩
def mLNil : GML := fun _ P => P []
def mLCons (m : GMD) (mr : GML) : GML := fun ρ P => m ρ fun z => mr ρ fun zs => P (z :: zs)
theorem gl_nil : GLs X [] tNil mLNil := ⟨pa_nil, fun dr Hi σ ρ H0 H Q P B R w k => k [] [] H0 H B .refl .nil w⟩
theorem gl_cons (ha : GD X e t md) (hr : GLs X es tl ml) (hs : starEach (e :: es) X.env = (false, eval e X.env) :: starEach es X.env := by rfl) : GLs X (e :: es) (tCons t tl) (mLCons md ml) := ⟨pa_cons ha.pe hr.pa hs, fun dr Hi σ ρ H0 H Q P B R w k =>
  ha.sn dr Hi σ ρ H0 H _ _ B R w fun x z A0 A1 B1 S1 z1 w1 => hr.sn dr Hi σ ρ A0 A1 _ _ B1 (R.step S1) w1 fun xs zs C0 C1 B2 S2 z2 w2 => k (x :: xs) (z :: zs) C0 C1 B2 (S1.trans S2) (.cons (z1.mono S2.e0) z2) w2⟩
def mLst (m : GML) : GM := fun ρ P => m ρ fun xs => xs.length ≤ sizeLine ∧ P (.own xs)
def mTup (m : GML) : GM := fun ρ P => m ρ fun xs => xs.length ≤ sizeLine ∧ P (.d (.tup xs))
theorem ge_lst (h : GLs X es tl ml) : GE X (.List es pos) (tLst tl) (mLst ml) := ⟨pe_lst h.pa, fun dr Hi σ ρ H0 H Q P B R w k => h.sn dr Hi σ ρ H0 H _ _ B R w fun vs xs A0 A1 B1 S1 z1 ⟨hl, p⟩ =>
  ⟨by rw [z1.length]; exact hl, fun q hq => k _ _ A0 _ (B1.new hq) (S1.trans (.new hq)) (.own upd_same z1 (B1.ex.free hq) (B1.out hq) (S1.free hq (B1.out hq))) p⟩⟩
theorem ge_tup {x1} (h : GLs X es tl ml) : GE X (.Tuple es x1 pos) (tTup tl) (mTup ml) := ⟨pe_tup h.pa, fun dr Hi σ ρ H0 H Q P B R w k => h.sn dr Hi σ ρ H0 H _ _ B R w fun vs xs A0 A1 B1 S1 z1 ⟨hl, p⟩ =>
  ⟨by rw [z1.length]; exact hl, fun q hq => k _ _ (upd A0 q (.tup vs)) _ (B1.newz hq) (S1.trans (.newz (B1.ex.free hq) hq)) (.d (.tup upd_same (z1.mono (same_upd (B1.ex.free hq))))) p⟩⟩
/-! ### built-ins by values -/
def CallS (r : List V → Hp → VK → Prop) (f : List Z → (Z → Prop) → Prop) : Prop := ∀ (dr : Option Dr) (Hs H0 H : Hp) (xs : List V) (zs : List Z) (Q : VK) (P : Z → Prop), Bas dr H0 H → ZvAll dr Hs H0 H xs zs → f zs P →
  (∀ v z H0' H', Bas dr H0' H' → Step dr H0 H H0' H' → Zv dr H H0' H' v z → P z → Q v H') → r xs H Q
def mCB (f : List Z → (Z → Prop) → Prop) (m : GMA) : GM := fun ρ P => m ρ fun zs => f zs P
theorem snd_cb {K : PySem.W.Frag} {r : List V → Hp → VK → Prop} {f : List Z → (Z → Prop) → Prop} (hs : CallS r f) (ha : SndA K tl mz) : SndE K (tCB r tl) (mCB f mz) := fun dr Hi σ ρ H0 H Q P B R w k =>
  ha dr Hi σ ρ H0 H _ _ B R w fun vs zs A0 A1 B1 S1 z1 w1 => hs dr H A0 A1 vs zs Q P B1 z1 w1 fun v z C0 C1 B2 S2 z2 p => k v z C0 C1 B2 (S1.trans S2) (z2.from S1) p
theorem ge_cb {id : String} {x : Str} {p : Pos} {r : List V → Hp → VK → Prop} {f : List Z → (Z → Prop) → Prop} (hc : CallR X (.builtin id) r) (hs : CallS r f) (hg : Gl X x) (hm : X.mg x = none) (hv : bootBuiltins x = some (.builtin id)) (ha : GA X (e :: es) tl mz) (hn : x ≠ "__name__" := by decide) (hdb : (x == ("__debug__" : Str)) = false := by decide)
    (hst : starEach (e :: es) X.env = (false, eval e X.env) :: starEach es X.env := by rfl) (hpl : (backTo pos (starEach es X.env)).any (·.1) = false := by rfl) :
    GE X (.Call (.Name x p) (e :: es) [] pos) (tCB r tl) (mCB f mz) := ⟨pe_callB hc hg hm hv ha.pa hn hdb hst hpl, snd_cb hs ha.sn⟩
theorem ge_ct {T : String} {x : Str} {p : Pos} {r : List V → Hp → VK → Prop} {f : List Z → (Z → Prop) → Prop} (hc : CallR X (.type T) r) (hs : CallS r f) (hg : Gl X x) (hm : X.mg x = none) (hv : bootBuiltins x = some (.type T)) (ha : GA X (e :: es) tl mz) (hn : x ≠ "__name__" := by decide) (hdb : (x == ("__debug__" : Str)) = false := by decide)
    (hst : starEach (e :: es) X.env = (false, eval e X.env) :: starEach es X.env := by rfl) (hpl : (backTo pos (starEach es X.env)).any (·.1) = false := by rfl) :
    GE X (.Call (.Name x p) (e :: es) [] pos) (tCB r tl) (mCB f mz) := ⟨pe_callTy hc hg hm hv ha.pa hn hdb hst hpl, snd_cb hs ha.sn⟩
end
end GL
end
section
set_option linter.all false
set_option maxRecDepth 100000
set_option maxHeartbeats 2000000
namespace GL
open PySem L2
variable [TabCx] [XCx]
/-! ### statements -/
structure GEnds where
  nx : Env → Prop
  rt : Z → Prop
  bk : Env → Prop := fun _ => False
  ct : Env → Prop := fun _ => False
  top : Bool := true
abbrev GMS := GEnds → Env → Prop
structure LE (K : PySem.W.Frag) (dr : Option Dr) (H0i Hi : Hp) (D : GEnds) (E : Ends) : Prop where
  nx : ∀ σ ρ H0 H, Bas dr H0 H → Step dr H0i Hi H0 H → Rs K dr Hi H0 H σ ρ → D.nx ρ → E.nx σ H
  rt : ∀ v z H0 H, Bas dr H0 H → Step dr H0i Hi H0 H → Zv dr Hi H0 H v z → D.rt z → E.rt v H
  bk : ∀ σ ρ H0 H, Bas dr H0 H → Step dr H0i Hi H0 H → Rs K dr Hi H0 H σ ρ → D.bk ρ → E.bk σ H
  ct : ∀ σ ρ H0 H, Bas dr H0 H → Step dr H0i Hi H0 H → Rs K dr Hi H0 H σ ρ → D.ct ρ → E.ct σ H
  tp : D.top = true → Same H0i Hi
def SndS (K : PySem.W.Frag) (t : TS) (m : GMS) : Prop := ∀ (dr : Option Dr) (H0i Hi : Hp) (σ : L2.St) (ρ : Env) (H0 H : Hp) (D : GEnds) (E : Ends), Bas dr H0 H → Step dr H0i Hi H0 H → Rs K dr Hi H0 H σ ρ → LE K dr H0i Hi D E → m D ρ → t E σ H
structure GS (X : Cx) (st : Stmt) (t : TS) (m : GMS) : Prop where
  ps : PS X st t
  sn : SndS X.K t m
structure GSs (X : Cx) (sts : List Stmt) (t : TS) (m : GMS) : Prop where
  ps : PSs X sts t
  sn : SndS X.K t m
section
variable {X : Cx} {e a b : Expr} {es : List Expr} {t ta tb : TE} {m ma mb : GM} {pos : Pos} {st : Stmt} {sts : List Stmt} {u v : TS} {mu mv : GMS} {tc : TT} {mc : GMT} {md : GMD}
def mNext : GMS := fun D ρ => D.nx ρ
def mSeq (a b : GMS) : GMS := fun D ρ => a { D with nx := b D } ρ
theorem gss_nil : GSs X [] tNext mNext := ⟨pss_nil, fun dr H0i Hi σ ρ H0 H D E B S R L w => L.nx σ ρ H0 H B S R w⟩
theorem gss_cons (h1 : GS X st u mu) (h2 : GSs X sts v mv) : GSs X (st :: sts) (tSeq u v) (mSeq mu mv) := ⟨pss_cons h1.ps h2.ps, fun dr H0i Hi σ ρ H0 H D E B S R L w =>
  h1.sn dr H0i Hi σ ρ H0 H { D with nx := mv D } { E with nx := v E } B S R ⟨fun σ ρ H0 H B S R q => h2.sn dr H0i Hi σ ρ H0 H D E B S R L q, L.rt, L.bk, L.ct, L.tp⟩ w⟩
theorem gss_one (h1 : GS X st u mu) : GSs X [st] u mu := ⟨pss_one h1.ps, h1.sn⟩
/-- x = e, the value as data -/
def mSet (i : Nat) (m : GM) : GMS := fun D ρ => m ρ fun z => ∃ x, z.dat = some x ∧ D.nx (ρ.set i (some (.d x)))
theorem gs_set {i : Nat} {x : Str} {pos' : Pos} (hN : X.N.Nodup) (hi : X.N[i]? = some x) (hx : Loc X.env.scope x) (he : GE X e t m) (hs : swapsWith e (some (.Name x pos')) pos.line X.env = pure false := by rfl) (hf : X.fn x = true ∨ X.env.scope.names.lookup x = some .local := by first | exact .inl rfl | exact .inr rfl | assumption) :
    GS X (.Assign [.Name x pos'] e pos) (tAsg t (gName i)) (mSet i m) := ⟨ps_set hN hi hx he.pe hs hf, fun dr H0i Hi σ ρ H0 H D E B S R L w =>
  (gd he).sn dr Hi σ ρ H0 H _ _ B R w fun v z A0 A1 B1 S1 dv q => L.nx _ _ A0 A1 B1 (S.trans S1) ((R.step S1).setD i dv) q⟩
/-- x = e, a new list of one's own -/
def mSetO (i : Nat) (m : GM) : GMS := fun D ρ => m ρ fun z => ∃ xs, z = .own xs ∧ D.nx (ρ.set i (some (.own xs)))
theorem Rs.freshO {K : PySem.W.Frag} {dr : Option Dr} {Hi H0 H : Hp} {σ : L2.St} {ρ : Env} (R : Rs K dr Hi H0 H σ ρ) {p : Addr} (h : H p = none) : ∀ (j : Nat) (ys : List D), ρ[j]? = some (some (.own ys)) → σ[j]? ≠ some (some (.ref p)) := fun j ys e q => by
  obtain ⟨v, hv, gv⟩ := R.at_ j _ e
  rw [q] at hv; cases hv
  cases gv with
  | own a b c d f => rw [h] at a; cases a
theorem gs_setO {i : Nat} {x : Str} {pos' : Pos} (hN : X.N.Nodup) (hi : X.N[i]? = some x) (hx : Loc X.env.scope x) (he : GE X e t m) (hs : swapsWith e (some (.Name x pos')) pos.line X.env = pure false := by rfl) (hf : X.fn x = true ∨ X.env.scope.names.lookup x = some .local := by first | exact .inl rfl | exact .inr rfl | assumption) :
    GS X (.Assign [.Name x pos'] e pos) (tAsg t (gName i)) (mSetO i m) := ⟨ps_set hN hi hx he.pe hs hf, fun dr H0i Hi σ ρ H0 H D E B S R L w =>
  he.sn dr Hi σ ρ H0 H _ _ B R w fun v z A0 A1 B1 S1 zv ⟨xs, e, q⟩ => by
    subst e
    cases zv with
    | own h k h0 o hs => exact L.nx _ _ A0 A1 B1 (S.trans S1) ((R.step S1).setO (A := H) i h k h0 o (S.free hs o) (R.freshO hs)) q⟩
def mDrop (m : GM) : GMS := fun D ρ => m ρ fun _ => D.nx ρ
theorem gs_expr (he : GE X e t m) (hs : swapsWith e none pos.line X.env = pure false := by rfl) : GS X (.Expr e pos) (tDrop t) (mDrop m) := ⟨ps_expr he.pe hs, fun dr H0i Hi σ ρ H0 H D E B S R L w =>
  he.sn dr Hi σ ρ H0 H _ _ B R w fun v z A0 A1 B1 S1 zv q => L.nx _ _ A0 A1 B1 (S.trans S1) (R.step S1) q⟩
def mRet (m : GM) : GMS := fun D ρ => m ρ fun z => D.rt z
theorem gs_ret (he : GE X e t m) : GS X (.Return (some e) pos) (tRet t) (mRet m) := ⟨ps_ret he.pe, fun dr H0i Hi σ ρ H0 H D E B S R L w =>
  he.sn dr Hi σ ρ H0 H _ _ B R w fun v z A0 A1 B1 S1 zv q => L.rt _ _ A0 A1 B1 (S.trans S1) (zv.from S) q⟩
def mRetN : GMS := fun D ρ => D.rt (.d .non)
theorem gs_retN : GS X (.Return none pos) tRetN mRetN := ⟨ps_retN, fun dr H0i Hi σ ρ H0 H D E B S R L w => L.rt _ _ H0 H B S (.d .non) w⟩
/-- return x, x a list of one's own -/
def mRetO (i : Nat) : GMS := fun D ρ => ∃ xs, ρ[i]? = some (some (.own xs)) ∧ D.rt (.own xs)
theorem gs_retO {i : Nat} (he : PE X e (tVar i)) : GS X (.Return (some e) pos) (tRet (tVar i)) (mRetO i) := ⟨ps_ret he, fun dr H0i Hi σ ρ H0 H D E B S R L ⟨xs, hx, q⟩ => by
  obtain ⟨v, hv, gv⟩ := R.at_ i _ hx
  cases gv with
  | own h k h0 o hi => exact ⟨_, hv, L.rt _ _ H0 H B S (.own h k h0 o hi) q⟩⟩
def mIf (c : GMT) (a b : GMS) : GMS := fun D ρ => c ρ fun k => if k = true then a D ρ else b D ρ
theorem gs_if {c : Expr} {sa sb : List Stmt} (hc : GT X c tc mc) (ha : GSs X sa u mu) (hb : GSs X sb v mv) : GS X (.If c sa sb pos) (tIfS tc u v) (mIf mc mu mv) := ⟨ps_if hc.pt ha.ps hb.ps, fun dr H0i Hi σ ρ H0 H D E B S R L w =>
  hc.sn dr Hi σ ρ H0 H _ _ B R w fun k A0 A1 B1 S1 q => by
    cases k with
    | true => exact ha.sn dr H0i Hi σ ρ A0 A1 D E B1 (S.trans S1) (R.step S1) L q
    | false => exact hb.sn dr H0i Hi σ ρ A0 A1 D E B1 (S.trans S1) (R.step S1) L q⟩
/-- never reached -/
def mNever : GMS := fun _ _ => False
theorem gs_never : GS X st tNever mNever := ⟨ps_never, fun _ _ _ _ _ _ _ _ _ _ _ _ _ w => w⟩
def mBreak : GMS := fun D ρ => D.bk ρ
def mCont : GMS := fun D ρ => D.ct ρ
theorem gs_break : GS X (.Break pos) tBreak mBreak := ⟨ps_break, fun dr H0i Hi σ ρ H0 H D E B S R L w => L.bk σ ρ H0 H B S R w⟩
theorem gs_cont : GS X (.Continue pos) tCont mCont := ⟨ps_continue, fun dr H0i Hi σ ρ H0 H D E B S R L w => L.ct σ ρ H0 H B S R w⟩
/-- a, b = x, y -/
def Z.g : Z → Bool → Option G
  | .own xs, true => some (.own xs)
  | z, _ => (z.dat).map .d
/-- what is stored: kept as one's own, or as data -/
def mPar (i j : Nat) (oi oj : Bool) (m : GMA) : GMS := fun D ρ => m ρ fun zs => ∃ z w g h, zs = [z, w] ∧ z.g oi = some g ∧ w.g oj = some h ∧ D.nx ((ρ.set i (some g)).set j (some h))
/-! ### targets -/
structure SndG (t : TG) (g : D → Env → (Env → Prop) → Prop) (is : List Nat) : Prop where
  run : ∀ (K : PySem.W.Frag) (dr : Option Dr) (Hi H0 H : Hp) (σ : L2.St) (ρ : Env) (v : V) (x : D) (Q : L2.St → Hp → Prop) (P : Env → Prop), Bas dr H0 H → Rs K dr Hi H0 H σ ρ → Dv H0 v x → g x ρ P →
    (∀ σ' ρ', Rs K dr Hi H0 H σ' ρ' → (∀ vs, (∀ i ∈ is, i ∈ vs) → wipe σ' vs = wipe σ vs) → P ρ' → Q σ' H) → t v σ H Q
theorem wipe_set {σ : L2.St} {i : Nat} {o : Option V} : ∀ {vs : List Nat}, i ∈ vs → wipe (σ.set i o) vs = wipe σ vs
  | [], h => by simp at h
  | w :: vs, h => by
    unfold wipe
    by_cases hi : i ∈ vs
    · rw [wipe_set hi]
    · have e : i = w := by
        rcases List.mem_cons.mp h with e | e
        · exact e
        · exact absurd e hi
      subst e
      have aux : ∀ (vs : List Nat) (σ : L2.St), i ∉ vs → wipe (σ.set i o) vs = (wipe σ vs).set i o := by
        intro vs
        induction vs with
        | nil => intro σ _; rfl
        | cons y ys ih =>
          intro σ hn
          unfold wipe
          have h1 : i ∉ ys := fun q => hn (List.mem_cons_of_mem _ q)
          have h2 : i ≠ y := fun q => hn (by rw [q]; exact List.mem_cons_self)
          rw [ih σ h1, List.set_comm _ _ h2]
      rw [aux vs σ hi, List.set_set]
def mgN (i : Nat) : D → Env → (Env → Prop) → Prop := fun x ρ P => P (ρ.set i (some (.d x)))
theorem sg_name {i : Nat} : SndG (gName i) (mgN i) [i] := ⟨fun K dr Hi H0 H σ ρ v x Q P B R d w k => k _ _ (R.setD i d) (fun vs h => wipe_set (h i List.mem_cons_self)) w⟩
structure SndGs (t : TGs) (g : List D → Env → (Env → Prop) → Prop) (is : List Nat) : Prop where
  run : ∀ (K : PySem.W.Frag) (dr : Option Dr) (Hi H0 H : Hp) (σ : L2.St) (ρ : Env) (vs : List V) (xs : List D) (Q : L2.St → Hp → Prop) (P : Env → Prop), Bas dr H0 H → Rs K dr Hi H0 H σ ρ → DvAll H0 vs xs → g xs ρ P →
    (∀ σ' ρ', Rs K dr Hi H0 H σ' ρ' → (∀ ws, (∀ i ∈ is, i ∈ ws) → wipe σ' ws = wipe σ ws) → P ρ' → Q σ' H) → t vs σ H Q
def mgNil : List D → Env → (Env → Prop) → Prop := fun xs ρ P => xs = [] ∧ P ρ
def mgCons (g : D → Env → (Env → Prop) → Prop) (gs : List D → Env → (Env → Prop) → Prop) : List D → Env → (Env → Prop) → Prop := fun xs ρ P => ∃ x r, xs = x :: r ∧ g x ρ fun ρ' => gs r ρ' P
theorem sgs_nil : SndGs gNil mgNil [] := ⟨fun K dr Hi H0 H σ ρ vs xs Q P B R d ⟨e, w⟩ k => by
  subst e
  cases d
  exact ⟨rfl, k _ _ R (fun _ _ => rfl) w⟩⟩
theorem sgs_cons {t : TG} {g : D → Env → (Env → Prop) → Prop} {is js : List Nat} {ts : TGs} {gs : List D → Env → (Env → Prop) → Prop} (h1 : SndG t g is) (h2 : SndGs ts gs js) : SndGs (gCons t ts) (mgCons g gs) (is ++ js) := ⟨fun K dr Hi H0 H σ ρ vs xs Q P B R d ⟨x, r, e, w⟩ k => by
  subst e
  cases d with
  | cons d1 d2 =>
    exact ⟨_, _, rfl, h1.run K dr Hi H0 H σ ρ _ _ _ _ B R d1 w fun σ1 ρ1 R1 q1 w1 => h2.run K dr Hi H0 H σ1 ρ1 _ _ _ _ B R1 d2 w1 fun σ2 ρ2 R2 q2 w2 => k σ2 ρ2 R2 (fun ws h => (q2 ws fun i hi => h i (List.mem_append_right _ hi)).trans (q1 ws fun i hi => h i (List.mem_append_left _ hi))) w2⟩⟩
def mgT (n : Nat) (gs : List D → Env → (Env → Prop) → Prop) : D → Env → (Env → Prop) → Prop := fun x ρ P => ∃ xs, x = .tup xs ∧ xs.length = n ∧ gs xs ρ P
theorem sg_tup {K : PySem.W.Frag} {n : Nat} {ts : TGs} {gs : List D → Env → (Env → Prop) → Prop} {is : List Nat} (h : SndGs ts gs is) : SndG (gTup K n ts) (mgT n gs) is := ⟨fun K' dr Hi H0 H σ ρ v x Q P B R d ⟨xs, e, hl, w⟩ k => by
  subst e
  cases d with
  | tup hp da => exact ⟨_, _, rfl, .of (B.ex _ _ hp), by rw [da.length]; exact hl, h.run K' dr Hi H0 H σ ρ _ _ _ _ B R da w k⟩⟩
structure GG (X : Cx) (tg : Expr) (t : TG) (g : D → Env → (Env → Prop) → Prop) (is : List Nat) : Prop where
  pg : PG X tg t
  sn : SndG t g is
structure GGs (X : Cx) (tg : List Expr) (t : TGs) (g : List D → Env → (Env → Prop) → Prop) (is : List Nat) : Prop where
  pg : PGs X tg t
  sn : SndGs t g is
theorem gg_name {i : Nat} {x : Str} (hN : X.N.Nodup) (hi : X.N[i]? = some x) (hx : Loc X.env.scope x) (hf : X.fn x = true ∨ X.env.scope.names.lookup x = some .local := by first | exact .inl rfl | exact .inr rfl | assumption) : GG X (.Name x pos) (gName i) (mgN i) [i] := ⟨pg_name hN hi hx hf, sg_name⟩
theorem ggs_nil : GGs X [] gNil mgNil [] := ⟨pgs_nil, sgs_nil⟩
theorem ggs_cons {t : TG} {g : D → Env → (Env → Prop) → Prop} {is js : List Nat} {ts : TGs} {gs : List D → Env → (Env → Prop) → Prop} (h1 : GG X e t g is) (h2 : GGs X es ts gs js)
    (hs : (assignEach (e :: es) X.env).map (·.2) = assign e X.env :: (assignEach es X.env).map (·.2) := by rfl) : GGs X (e :: es) (gCons t ts) (mgCons g gs) (is ++ js) := ⟨pgs_cons h1.pg h2.pg hs, sgs_cons h1.sn h2.sn⟩
theorem gg_tup {k : Nat} {n : Nat} {ts : TGs} {gs : List D → Env → (Env → Prop) → Prop} {is : List Nat} (hc : X.calm = true) (h : GGs X es ts gs is) (hn : (assignEach es X.env).length = n := by rfl) (hst : (assignEach es X.env).findIdx? (·.1) = none := by rfl) :
    GG X (.Tuple es k pos) (gTup X.K n ts) (mgT n gs) is := ⟨pg_tup hc h.pg hn hst, sg_tup h.sn⟩
/-- (a, b) = e, e a tuple -/
def mAsg (m : GMD) (g : D → Env → (Env → Prop) → Prop) : GMS := fun D ρ => m ρ fun x => g x ρ D.nx
theorem gs_asg {tg : Expr} {tG : TG} {g : D → Env → (Env → Prop) → Prop} {is : List Nat} (he : GD X e t md) (hg : GG X tg tG g is) (hs : swapsWithSole [tg] e pos.line X.env = pure false := by rfl) (hw : swappedStores [tg] e X.env = pure none := by rfl)
    (h1 : (assignEach [tg] X.env).map (·.2) = [assign tg X.env] := by rfl) : GS X (.Assign [tg] e pos) (tAsg t tG) (mAsg md g) := ⟨ps_asg he.pe hg.pg hs hw h1, fun dr H0i Hi σ ρ H0 H D E B S R L w =>
  he.sn dr Hi σ ρ H0 H _ _ B R w fun v x A0 A1 B1 S1 dv q => hg.sn.run X.K dr Hi A0 A1 σ ρ v x _ _ B1 (R.step S1) dv q fun σ' ρ' R' _ q' => L.nx σ' ρ' A0 A1 B1 (S.trans S1) R' q'⟩
/-! ### walks -/
/-- J yields the data xs, as long as ok holds of the heaps -/
structure Wk (J : It) (dr : Option Dr) (ok : Hp → Hp → Prop) (xs : List D) : Prop where
  stop : ∀ C0 C, Bas dr C0 C → ok C0 C → J.stop xs.length C
  go : ∀ i C0 C, i < xs.length → Bas dr C0 C → ok C0 C → J.go i C
  yld : ∀ i x C0 C v C', xs[i]? = some x → Bas dr C0 C → ok C0 C → J.yld i C v C' → ∃ C0', Bas dr C0' C' ∧ Step dr C0 C C0' C' ∧ Dv C0' v x
theorem Wk.weak {J : It} {dr : Option Dr} {ok ok' : Hp → Hp → Prop} {xs : List D} (h : Wk J dr ok xs) (k : ∀ C0 C, ok' C0 C → ok C0 C) : Wk J dr ok' xs :=
  ⟨fun C0 C B o => h.stop C0 C B (k _ _ o), fun i C0 C hi B o => h.go i C0 C hi B (k _ _ o), fun i x C0 C v C' hx B o y => h.yld i x C0 C v C' hx B (k _ _ o) y⟩
/-- a walk for a loop (fr), or for a comprehension alone -/
def SndI (fr : Bool) (K : PySem.W.Frag) (wi : TI) (mi : GML) : Prop := ∀ (dr : Option Dr) (Hi : Hp) (σ : L2.St) (ρ : Env) (H0 H : Hp) (R : It → Hp → Prop) (P : List D → Prop), Bas dr H0 H → Rs K dr Hi H0 H σ ρ → mi ρ P →
  (∀ J xs H0' H', Bas dr H0' H' → Step dr H0 H H0' H' → Wk J dr (fun C0 C => if fr then Same H0' C0 else Step dr H0' H' C0 C) xs → P xs → R J H') → wi σ H R
structure GI (fr : Bool) (X : Cx) (tg iter : Expr) (wi : TI) (mi : GML) : Prop where
  pi : PI X tg iter wi
  sn : SndI fr X.K wi mi
def iSeq (K : PySem.W.Frag) (tl : TE) : TI := fun σ H R => tl σ H fun x H1 => ∃ a, x = .ref a ∧ (((∃ xs, SqL K H1 a xs) ∧ R (Itl K a) H1) ∨ ((∃ xs, SqT K H1 a xs) ∧ R (Itt K a) H1))
theorem pi_seq {tg l : Expr} {tl : TE} (hl : PE X l tl) : PI X tg l (iSeq X.K tl) := by
  refine ⟨fun pins s σ H R I h => ?_⟩
  refine thn (hl.run pins s σ H _ I h) fun v s1 ⟨x, H1, I1, r1, q1⟩ => ?_
  obtain ⟨a, e, q⟩ := q1
  subst e
  cases r1
  rcases q with ⟨⟨xs, hq⟩, q⟩ | ⟨⟨xs, hq⟩, q⟩
  · obtain ⟨its, rv, p, hz⟩ := I1.list hq
    refine wpAny_pyIter_list p.isList ?_
    refine ⟨s1.heap.objs.size, [s1.heap.objs.size], _, _, H1, rfl, I1.kept (t' := s1.toks) fun b o e => Heap.get?_push_of_some _ e, turn_list a _, ⟨_, Heap.get?_push_size _ rfl, rfl, rfl⟩, fun b hb => ?_, q⟩
    have e : b = s1.heap.objs.size := by simpa using hb
    subst e
    exact I1.fpOk (Nat.le_refl _) (I1.hok.fresh (Nat.le_refl _))
  · obtain ⟨its, rv, p, hz⟩ := I1.tuple hq
    refine wpAny_pyIter_tuple (show s1.heap.IsTuple a its.toArray from p) ?_
    refine ⟨s1.heap.objs.size, [s1.heap.objs.size], _, _, H1, rfl, I1.kept (t' := s1.toks) fun b o e => Heap.get?_push_of_some _ e, turn_tuple a _, ⟨_, Heap.get?_push_size _ rfl, rfl, rfl⟩, fun b hb => ?_, q⟩
    have e : b = s1.heap.objs.size := by simpa using hb
    subst e
    exact I1.fpOk (Nat.le_refl _) (I1.hok.fresh (Nat.le_refl _))
theorem wk_list {K : PySem.W.Frag} {dr : Option Dr} {ok : Hp → Hp → Prop} {p : Addr} {vs : List V} {xs : List D} (h : ∀ C0 C, Bas dr C0 C → ok C0 C → C p = some (.lst vs) ∧ DvAll C0 vs xs) : Wk (Itl K p) dr ok xs where
  stop := fun C0 C B o => by
    obtain ⟨h1, h2⟩ := h C0 C B o
    exact ⟨vs, .of h1, by rw [h2.length]; exact Nat.le_refl _⟩
  go := fun i C0 C hi B o => by
    obtain ⟨h1, h2⟩ := h C0 C B o
    have hv : i < vs.length := by rw [h2.length]; exact hi
    exact ⟨vs, vs[i], .of h1, List.getElem?_eq_getElem hv⟩
  yld := fun i x C0 C v C' hx B o y => by
    obtain ⟨h1, h2⟩ := h C0 C B o
    obtain ⟨e, y⟩ := y
    subst e
    obtain ⟨d, hd, dv⟩ := h2.getV (y vs (.of h1))
    rw [hx] at hd; cases hd
    exact ⟨C0, B, .refl, dv⟩
theorem wk_tup {K : PySem.W.Frag} {dr : Option Dr} {ok : Hp → Hp → Prop} {p : Addr} {vs : List V} {xs : List D} (h : ∀ C0 C, Bas dr C0 C → ok C0 C → C p = some (.tup vs) ∧ DvAll C0 vs xs) : Wk (Itt K p) dr ok xs where
  stop := fun C0 C B o => by
    obtain ⟨h1, h2⟩ := h C0 C B o
    exact ⟨vs, .of h1, by rw [h2.length]; exact Nat.le_refl _⟩
  go := fun i C0 C hi B o => by
    obtain ⟨h1, h2⟩ := h C0 C B o
    have hv : i < vs.length := by rw [h2.length]; exact hi
    exact ⟨vs, vs[i], .of h1, List.getElem?_eq_getElem hv⟩
  yld := fun i x C0 C v C' hx B o y => by
    obtain ⟨h1, h2⟩ := h C0 C B o
    obtain ⟨e, y⟩ := y
    subst e
    obtain ⟨d, hd, dv⟩ := h2.getV (y vs (.of h1))
    rw [hx] at hd; cases hd
    exact ⟨C0, B, .refl, dv⟩
def mWalk (m : GM) : GML := fun ρ P => m ρ fun z => ∃ t xs, z.seq = some (t, xs) ∧ P xs
/-- over a list or a tuple, in a comprehension -/
theorem gi_seqC {tg : Expr} (h : GE X e t m) : GI false X tg e (iSeq X.K t) (mWalk m) := ⟨pi_seq h.pe, fun dr Hi σ ρ H0 H R P B Rr w k =>
  h.sn dr Hi σ ρ H0 H _ _ B Rr w fun v z A0 A1 B1 S1 z1 ⟨tt, xs, e, p⟩ => by
    obtain ⟨q, vs, e1, hp, da⟩ := z1.seq B1 e
    subst e1
    refine ⟨q, rfl, ?_⟩
    obtain ⟨hq, oq⟩ := hide_some hp
    cases tt with
    | false => exact .inl ⟨⟨vs, .of hq⟩, k _ xs A0 A1 B1 S1 (wk_list fun C0 C B' o => ⟨Step.same o hq oq, da.mono o.e0⟩) p⟩
    | true => exact .inr ⟨⟨vs, .of hq⟩, k _ xs A0 A1 B1 S1 (wk_tup fun C0 C B' o => ⟨Step.same o hq oq, da.mono o.e0⟩) p⟩⟩
def mWalkD (m : GMD) : GML := fun ρ P => m ρ fun x => ∃ t xs, (Z.d x).seq = some (t, xs) ∧ P xs
/-- over data -/
theorem gi_seq {tg : Expr} (h : GD X e t md) : GI true X tg e (iSeq X.K t) (mWalkD md) := ⟨pi_seq h.pe, fun dr Hi σ ρ H0 H R P B Rr w k =>
  h.sn dr Hi σ ρ H0 H _ _ B Rr w fun v x A0 A1 B1 S1 dv ⟨tt, xs, e, p⟩ => by
    cases dv with
    | lst hq da => cases e; exact ⟨_, rfl, .inl ⟨⟨_, .of (B1.ex _ _ hq)⟩, k _ xs A0 A1 B1 S1 (wk_list fun C0 C B' (o : Same A0 C0) => ⟨B'.ex _ _ (o _ _ hq), da.mono o⟩) p⟩⟩
    | tup hq da => cases e; exact ⟨_, rfl, .inr ⟨⟨_, .of (B1.ex _ _ hq)⟩, k _ xs A0 A1 B1 S1 (wk_tup fun C0 C B' (o : Same A0 C0) => ⟨B'.ex _ _ (o _ _ hq), da.mono o⟩) p⟩⟩
    | _ => cases e⟩
theorem GI.c {tg : Expr} {wi : TI} {mi : GML} (h : GI true X tg e wi mi) : GI false X tg e wi mi := ⟨h.pi, fun dr Hi σ ρ H0 H R P B Rr w k =>
  h.sn dr Hi σ ρ H0 H R P B Rr w fun J xs A0 A1 B1 S1 wk p => k J xs A0 A1 B1 S1 (wk.weak fun C0 C (o : Step dr A0 A1 C0 C) => o.e0) p⟩
/-- range(n), range(a, b) -/
def rngD (lo : Int) (n : Nat) : List D := (List.range n).map fun (k : Nat) => D.int (lo + k)
theorem wk_rng {dr : Option Dr} {ok : Hp → Hp → Prop} {lo : Int} {n : Nat} : Wk (Itr lo n) dr ok (rngD lo n) where
  stop := fun C0 C B o => by
    show n ≤ (rngD lo n).length
    simp [rngD]
  go := fun i C0 C hi B o => by
    show i < n
    simpa [rngD] using hi
  yld := fun i x C0 C v C' hx B o y => by
    obtain ⟨e, y⟩ := y
    subst e; subst y
    have e : x = D.int (lo + i) := by
      unfold rngD at hx
      rw [List.getElem?_map] at hx
      cases q : (List.range n)[i]? with
      | none => rw [q] at hx; cases hx
      | some j =>
        rw [q] at hx
        have := List.getElem?_range (n := n) (i := i)
        by_cases hn : i < n
        · rw [List.getElem?_range hn] at q; cases q; cases hx; rfl
        · rw [List.getElem?_eq_none (by simpa using hn)] at q; cases q
    subst e
    exact ⟨C0, B, .refl, .int _⟩
def mRng1 (m : GMA) : GML := fun ρ P => m ρ fun zs => ∃ j : Int, zs = [.d (.int j)] ∧ -(2 ^ 62) ≤ j ∧ j < 2 ^ 62 ∧ P (rngD 0 j.toNat)
def mRng2 (m : GMA) : GML := fun ρ P => m ρ fun zs => ∃ i j : Int, zs = [.d (.int i), .d (.int j)] ∧ (-(2 ^ 62) ≤ i ∧ i < 2 ^ 62 ∧ -(2 ^ 62) ≤ j ∧ j < 2 ^ 62) ∧ P (rngD i (j - i).toNat)
theorem gi_rng1 {tg : Expr} {p : Pos} {tl : TA} {mz : GMA} (hg : Gl X "range") (hm : X.mg "range" = none) (ha : GA X [a] tl mz) (hs : starEach [a] X.env = [(false, eval a X.env)] := by rfl) : GI true X tg (.Call (.Name "range" p) [a] [] pos) (iRng1 tl) (mRng1 mz) := ⟨pi_range1 hg hm ha.pa hs, fun dr Hi σ ρ H0 H R P B Rr w k =>
  ha.sn dr Hi σ ρ H0 H _ _ B Rr w fun vs zs A0 A1 B1 S1 z1 ⟨j, e, h1, h2, q⟩ => by
    subst e
    cases z1 with
    | cons z1 zr =>
      cases zr
      cases z1 with
      | d d1 => cases d1; exact ⟨j, rfl, h1, h2, k _ _ A0 A1 B1 S1 wk_rng q⟩⟩
theorem gi_rng2 {tg : Expr} {p : Pos} {tl : TA} {mz : GMA} (hg : Gl X "range") (hm : X.mg "range" = none) (ha : GA X [a, b] tl mz) (hs : starEach [a, b] X.env = [(false, eval a X.env), (false, eval b X.env)] := by rfl) (hs2 : starEach [b] X.env = [(false, eval b X.env)] := by rfl) : GI true X tg (.Call (.Name "range" p) [a, b] [] pos) (iRng2 tl) (mRng2 mz) := ⟨pi_range2 hg hm ha.pa hs hs2, fun dr Hi σ ρ H0 H R P B Rr w k =>
  ha.sn dr Hi σ ρ H0 H _ _ B Rr w fun vs zs A0 A1 B1 S1 z1 ⟨i, j, e, h1, q⟩ => by
    subst e
    cases z1 with
    | cons z1 zr =>
      cases zr with
      | cons z2 zr =>
        cases zr
        cases z1 with
        | d d1 =>
          cases z2 with
          | d d2 => cases d1; cases d2; exact ⟨i, j, rfl, h1, k _ _ A0 A1 B1 S1 wk_rng q⟩⟩
/-- a text, sign by sign -/
def signsD (x : Str) : List D := x.cps.toList.map fun c => D.str ⟨#[c]⟩
theorem wk_str {dr : Option Dr} {ok : Hp → Hp → Prop} {x : Str} : Wk (Its x) dr ok (signsD x) where
  stop := fun C0 C B o => by
    show x.cps.size ≤ (signsD x).length
    simp [signsD]
  go := fun i C0 C hi B o => by
    show i < x.cps.size
    simpa [signsD] using hi
  yld := fun i y C0 C v C' hx B o q => by
    obtain ⟨e, c, hc, rfl⟩ := q
    subst e
    have e : y = D.str ⟨#[c]⟩ := by
      unfold signsD at hx
      rw [List.getElem?_map, Array.getElem?_toList, hc] at hx
      cases hx; rfl
    subst e
    exact ⟨C0, B, .refl, .str _⟩
def mWalkS (m : GM) : GML := fun ρ P => m ρ fun z => ∃ x, z = .d (.str x) ∧ P (signsD x)
theorem gi_str {tg : Expr} (h : GE X e t m) : GI true X tg e (iStr t) (mWalkS m) := ⟨pi_str h.pe, fun dr Hi σ ρ H0 H R P B Rr w k =>
  h.sn dr Hi σ ρ H0 H _ _ B Rr w fun v z A0 A1 B1 S1 z1 ⟨x, e, p⟩ => by
    subst e
    cases z1 with
    | d d1 => cases d1; exact ⟨x, rfl, k _ _ A0 A1 B1 S1 wk_str p⟩⟩
/-! ### for -/
theorem Step.rebase {dr : Option Dr} {H0i Hi A0 A H0 H : Hp} (s : Step dr H0i Hi A0 A) (t : Step dr A0 Hi H0 H) : Step dr H0i Hi H0 H :=
  ⟨s.e0.trans t.e0, t.e1, fun a o k h => (t.nw a o k h).elim (fun q => s.nw a o k q) .inr⟩
theorem Step.based {dr : Option Dr} {H0i Hi A0 A : Hp} (s : Step dr H0i Hi A0 A) : Step dr A0 Hi A0 A := ⟨Same.refl _, s.e1, fun _ _ _ h => .inl h⟩
def mForL (g : D → Env → (Env → Prop) → Prop) (mb : GMS) (D : GEnds) : List GL.D → Env → Prop
  | [], ρ => D.nx ρ
  | x :: xs, ρ => g x ρ fun ρ1 => mb { D with nx := mForL g mb D xs, ct := mForL g mb D xs, bk := D.nx, top := false } ρ1
def mFor (mi : GML) (g : D → Env → (Env → Prop) → Prop) (mb : GMS) : GMS := fun D ρ => mi ρ fun xs => mForL g mb D xs ρ
theorem gs_for {tg iter : Expr} {body : List Stmt} {wi : TI} {mi : GML} {tG : TG} {g : D → Env → (Env → Prop) → Prop} {is : List Nat} {tb : TS} {mb : GMS} (hp : PassesOwn (model X.prog X.w) X.A X.env X.xe) (hc : X.calm = true) (hi : GI true X tg iter wi mi) (hg : GG X tg tG g is) (hb : GSs X body tb mb)
    (hs : ∀ x, foldedSetIterable iter X.env x = pure x := by intro _; rfl) : GS X (.For tg iter body [] pos) (tFor wi tG tb) (mFor mi g mb) := ⟨ps_for hp hc hi.pi hg.pg hb.ps hs, fun dr H0i Hi σ ρ H0 H D E B S R L w =>
  hi.sn dr Hi σ ρ H0 H _ _ B R w fun J xs A0 A1 B1 S1 wk q => by
    have S1' := S.trans S1
    refine ⟨fun i n σ' H' => n = xs.length - i ∧ i ≤ xs.length ∧ ∃ ρ' H0', Bas dr H0' H' ∧ Step dr A0 Hi H0' H' ∧ Rs X.K dr Hi H0' H' σ' ρ' ∧ mForL g mb D (xs.drop i) ρ',
      ⟨xs.length, rfl, Nat.zero_le _, ρ, A0, B1, S1'.based, R.step S1, q⟩, ?_⟩
    rintro i n σ' H' ⟨rfl, hle, ρ', H0', B', S', R', q'⟩
    by_cases hlt : i < xs.length
    · refine .inr ⟨wk.go i H0' H' hlt B' S'.e0, fun σ2 H2 => (i + 1 ≤ xs.length ∧ ∃ ρ' H0', Bas dr H0' H2 ∧ Step dr A0 Hi H0' H2 ∧ Rs X.K dr Hi H0' H2 σ2 ρ' ∧ mForL g mb D (xs.drop (i + 1)) ρ'), fun σ2 H2 ⟨h1, h2⟩ => ⟨xs.length - (i + 1), by omega, rfl, h1, h2⟩, fun v H2 y => ?_⟩
      obtain ⟨C0, B2, S2, dv⟩ := wk.yld i xs[i] H0' H' v H2 (List.getElem?_eq_getElem hlt) B' S'.e0 y
      rw [List.drop_eq_getElem_cons hlt] at q'
      refine hg.sn.run X.K dr Hi C0 H2 σ' ρ' v xs[i] _ _ B2 (R'.step S2) dv q' fun σ3 ρ3 R3 _ q3 => ?_
      refine hb.sn dr A0 Hi σ3 ρ3 C0 H2 { D with nx := mForL g mb D (xs.drop (i + 1)), ct := mForL g mb D (xs.drop (i + 1)), bk := D.nx, top := false } _ B2 (S'.trans S2) R3 ⟨fun σ4 ρ4 D0 D1 B4 S4 R4 q4 => ⟨hlt, ρ4, D0, B4, S4, R4, q4⟩, fun v4 z4 D0 D1 B4 S4 z5 q4 => L.rt v4 z4 D0 D1 B4 (S1'.rebase S4) z5 q4,
        fun σ4 ρ4 D0 D1 B4 S4 R4 q4 => L.nx σ4 ρ4 D0 D1 B4 (S1'.rebase S4) R4 q4, fun σ4 ρ4 D0 D1 B4 S4 R4 q4 => ⟨hlt, ρ4, D0, B4, S4, R4, q4⟩, fun h => nomatch h⟩ q3
    · have e : i = xs.length := by omega
      subst e
      rw [List.drop_length] at q'
      exact .inl ⟨wk.stop H0' H' B' S'.e0, L.nx σ' ρ' H0' H' B' (S1'.rebase S') R' q'⟩⟩
/-! ### while -/
def mWhN (c : GMT) (mb : GMS) (D : GEnds) : Nat → Env → Prop
  | 0, _ => False
  | n + 1, ρ => c ρ fun k => if k = true then mb { D with nx := mWhN c mb D n, ct := mWhN c mb D n, bk := D.nx, top := false } ρ else D.nx ρ
def mWh (c : GMT) (mb : GMS) : GMS := fun D ρ => ∃ n, mWhN c mb D n ρ
theorem gs_while {c : Expr} {body : List Stmt} {tb : TS} {mb : GMS} (hp : PassesOwn (model X.prog X.w) X.A X.env X.xe) (hc : GT X c tc mc) (hb : GSs X body tb mb) : GS X (.While c body [] pos) (tWhile tc tb) (mWh mc mb) := ⟨ps_while hp hc.pt hb.ps, fun dr H0i Hi σ ρ H0 H D E B S R L ⟨n, w⟩ => by
  refine ⟨fun n σ' H' => ∃ ρ' H0', Bas dr H0' H' ∧ Step dr H0i Hi H0' H' ∧ Rs X.K dr Hi H0' H' σ' ρ' ∧ mWhN mc mb D n ρ', ⟨n, ρ, H0, B, S, R, w⟩, ?_⟩
  rintro n σ' H' ⟨ρ', H0', B', S', R', q'⟩
  cases n with
  | zero => exact q'.elim
  | succ n =>
    refine hc.sn dr Hi σ' ρ' H0' H' _ _ B' R' q' fun b A0 A1 B1 S1 q1 => ?_
    cases b with
    | false => exact L.nx σ' ρ' A0 A1 B1 (S'.trans S1) (R'.step S1) q1
    | true =>
      refine ⟨fun σ2 H2 => ∃ ρ2 H02, Bas dr H02 H2 ∧ Step dr H0i Hi H02 H2 ∧ Rs X.K dr Hi H02 H2 σ2 ρ2 ∧ mWhN mc mb D n ρ2, fun σ2 H2 h => ⟨n, Nat.lt_succ_self n, h⟩, ?_⟩
      exact hb.sn dr H0i Hi σ' ρ' A0 A1 { D with nx := mWhN mc mb D n, ct := mWhN mc mb D n, bk := D.nx, top := false } _ B1 (S'.trans S1) (R'.step S1) ⟨fun σ4 ρ4 D0 D1 B4 S4 R4 q4 => ⟨ρ4, D0, B4, S4, R4, q4⟩, L.rt, fun σ4 ρ4 D0 D1 B4 S4 R4 q4 => L.nx σ4 ρ4 D0 D1 B4 S4 R4 q4, fun σ4 ρ4 D0 D1 B4 S4 R4 q4 => ⟨ρ4, D0, B4, S4, R4, q4⟩, fun h => nomatch h⟩ q1⟩
/-! ### comprehensions -/
structure GTs (X : Cx) (ifs : List Expr) (t : TT) (m : GMT) : Prop where
  pt : PTs X ifs t
  sn : SndT X.K t m
def mYes : GMT := fun _ P => P true
theorem gts_nil : GTs X [] tYes mYes := ⟨pts_nil, fun dr Hi σ ρ H0 H Q P B R w k => k true H0 H B .refl w⟩
theorem gts_one {c : Expr} (h : GT X c tc mc) : GTs X [c] tc mc := ⟨pts_one h.pt, h.sn⟩
theorem wipe_idem {σ : L2.St} {vs : List Nat} {σ' : L2.St} (h : wipe σ' vs = wipe (wipe σ vs) vs) : wipe σ' vs = wipe σ vs := by
  rw [h]
  have key : ∀ (us : List Nat) (τ : L2.St), (∀ i ∈ us, ∀ x : V, τ[i]? ≠ some (some x)) → wipe τ us = τ := by
    intro us
    induction us with
    | nil => intro τ _; rfl
    | cons u us ih =>
      intro τ hn
      unfold wipe
      rw [ih τ fun i hi => hn i (List.mem_cons_of_mem _ hi)]
      apply List.ext_getElem?
      intro j
      by_cases hj : u = j
      · subst hj
        by_cases hl : u < τ.length
        · rw [List.getElem?_set_self hl]
          cases q : τ[u]? with
          | none => rw [List.getElem?_eq_none_iff] at q; omega
          | some o =>
            cases o with
            | none => rfl
            | some x => exact absurd q (hn u List.mem_cons_self x)
        · rw [List.getElem?_eq_none (by simpa using hl), List.getElem?_eq_none (by omega)]
      · rw [List.getElem?_set_ne hj]
  exact key vs (wipe σ vs) fun i hi x q => (wipe_some q).2 hi
def mLcL (g : D → Env → (Env → Prop) → Prop) (mt : GMT) (md : GMD) : List D → Env → List D → (List D → Prop) → Prop
  | [], _, acc, P => P acc
  | x :: xs, ρ, acc, P => g x ρ fun ρ1 => mt ρ1 fun b => if b = true then md ρ1 fun y => acc.length < sizeLine ∧ mLcL g mt md xs ρ (acc ++ [y]) P else mLcL g mt md xs ρ acc P
def mLc (mi : GML) (g : D → Env → (Env → Prop) → Prop) (mt : GMT) (md : GMD) (vs : List Nat) : GM := fun ρ P => mi ρ fun xs => mLcL g mt md xs (wipeG ρ vs) [] fun ys => P (.own ys)
theorem snd_lc {fr : Bool} {K : PySem.W.Frag} {wi : TI} {mi : GML} {tG : TG} {g : D → Env → (Env → Prop) → Prop} {is vs : List Nat} {tt : TT} {mt : GMT} {te : TE} (hi : SndI fr K wi mi) (hg : SndG tG g is) (his : ∀ i ∈ is, i ∈ vs) (ht : SndT K tt mt) (he : SndD K te md) : SndE K (tLc wi tG tt te vs) (mLc mi g mt md vs) :=
  fun dr Hi σ ρ H0 H Q P B R w k => hi dr Hi σ ρ H0 H _ _ B R w fun J xs A0 A1 B1 S1 wk q => by
    intro p hp
    have op := B1.out hp
    have h0p := B1.ex.free hp
    have R1 := (R.step S1).wipe vs
    have hip : Hi p = none ∨ True := .inr trivial
    have ok : ∀ C0 C, Step dr A0 A1 C0 C → (if fr then Same A0 C0 else Step dr A0 A1 C0 C) := fun C0 C o => by
      cases fr with
      | true => exact o.e0
      | false => exact o
    -- behind i turns
    refine ⟨fun i n H' => n = xs.length - i ∧ i ≤ xs.length ∧ ∃ H0' av acc, Bas dr H0' H' ∧ Step dr A0 A1 H0' H' ∧ H' p = some (.lst av) ∧ DvAll H0' av acc ∧ H0' p = none ∧ mLcL g mt md (xs.drop i) (wipeG ρ vs) acc (fun ys => P (.own ys)),
      ⟨xs.length, rfl, Nat.zero_le _, A0, [], [], B1.new hp, .new hp, upd_same, .nil, h0p, q⟩, ?_⟩
    rintro i n H' ⟨rfl, hle, H0', av, acc, B', S', hL, da, h0L, q'⟩
    by_cases hlt : i < xs.length
    · refine .inr ⟨wk.go i H0' H' hlt B' (ok _ _ S'), fun H2 => i + 1 ≤ xs.length ∧ ∃ H0' av acc, Bas dr H0' H2 ∧ Step dr A0 A1 H0' H2 ∧ H2 p = some (.lst av) ∧ DvAll H0' av acc ∧ H0' p = none ∧ mLcL g mt md (xs.drop (i + 1)) (wipeG ρ vs) acc (fun ys => P (.own ys)), fun H2 ⟨h1, h2⟩ => ⟨xs.length - (i + 1), by omega, rfl, h1, h2⟩, fun v H2 y => ?_⟩
      obtain ⟨C0, B2, S2, dv⟩ := wk.yld i xs[i] H0' H' v H2 (List.getElem?_eq_getElem hlt) B' (ok _ _ S') y
      rw [List.drop_eq_getElem_cons hlt] at q'
      -- the slots stand as they did: the list grown is none of theirs
      have R2 : Rs K dr Hi C0 H2 (wipe σ vs) (wipeG ρ vs) := R1.step (S'.trans S2)
      have keep : ∀ {E0 E : Hp}, Step dr A0 A1 E0 E → Step dr H0' H' E0 E → E p = some (.lst av) ∧ E0 p = none := fun {E0 E} _ s => ⟨s.same hL op, by
        cases q : E0 p with
        | none => rfl
        | some u =>
          rcases s.nw _ _ op q with e | e
          · rw [h0L] at e; cases e
          · rw [hL] at e; cases e⟩
      refine hg.run K dr Hi C0 H2 (wipe σ vs) (wipeG ρ vs) v xs[i] _ _ B2 R2 dv q' fun σ3 ρ3 R3 hw q3 => ⟨wipe_idem (hw vs his), ?_⟩
      refine ht dr Hi σ3 ρ3 C0 H2 _ _ B2 R3 q3 fun b E0 E1 B3 S3 q4 => ?_
      have S23 := S2.trans S3
      cases b with
      | false =>
        obtain ⟨k1, k2⟩ := keep (S'.trans S23) S23
        exact ⟨hlt, E0, av, acc, B3, S'.trans S23, k1, da.mono S23.e0, k2, q4⟩
      | true =>
        refine he dr Hi σ3 ρ3 E0 E1 _ _ B3 (R3.step S3) q4 fun y yd F0 F1 B4 S4 dy ⟨hz, q5⟩ => ?_
        have S24 := S23.trans S4
        obtain ⟨k1, k2⟩ := keep (S'.trans S24) S24
        refine ⟨av, k1, by rw [da.length]; exact hz, hlt, F0, av ++ [y], acc ++ [yd], B4.upd k2 op (by rw [k1]; trivial), (S'.trans S24).mut hp, upd_same, (da.mono S24.e0).append (.cons dy .nil), k2, q5⟩
    · have e : i = xs.length := by omega
      subst e
      rw [List.drop_length] at q'
      exact .inl ⟨wk.stop H0' H' B' (ok _ _ S'), k _ _ H0' H' B' (S1.trans S') (.own hL da h0L op (S1.free hp op)) q'⟩
theorem ge_lc {fr : Bool} {elt tg iter : Expr} {ifs : List Expr} {scope : Scope} {own : List (Str × Nat)} {wi : TI} {mi : GML} {tG : TG} {g : D → Env → (Env → Prop) → Prop} {is : List Nat} {tt : TT} {mt : GMT} {te : TE} (hc : X.calm = true) (hN : X.N.Nodup) (hi : GI fr X tg iter wi mi) (ok : BlkOk X.N X.env.scope scope own)
    (hg : ∀ (s : Shared) (H : Hp) (C : Addr) (cl : List (Str × Addr)) (fp : List Addr), GG (X.blk s H scope (compEnvC scope cl C X.env) fp) tg tG g is) (ht : ∀ (s : Shared) (H : Hp) (C : Addr) (cl : List (Str × Addr)) (fp : List Addr), GTs (X.blk s H scope (compEnvC scope cl C X.env) fp) ifs tt mt)
    (he : ∀ (s : Shared) (H : Hp) (C : Addr) (cl : List (Str × Addr)) (fp : List Addr), GD (X.blk s H scope (compEnvC scope cl C X.env) fp) elt te md) (his : ∀ i ∈ is, i ∈ own.map (·.2) := by decide) (hs : ∀ x, foldedSetIterable iter X.env x = pure x := by intro _; rfl) :
    GE X (.ListComp elt [⟨tg, iter, ifs, 0⟩] scope pos) (tLc wi tG tt te (own.map (·.2))) (mLc mi g mt md (own.map (·.2))) :=
  ⟨pe_lc hc hN hi.pi ok (fun s H C cl fp => (hg s H C cl fp).pg) (fun s H C cl fp => (ht s H C cl fp).pt) (fun s H C cl fp => (he s H C cl fp).pe) hs,
    snd_lc hi.sn (hg X.s_0 X.H_0 0 [] []).sn his (ht X.s_0 X.H_0 0 [] []).sn (he X.s_0 X.H_0 0 [] []).sn⟩
/-- y = [..] -/
theorem gs_setLc {fr : Bool} {i : Nat} {y : Str} {py spos : Pos} {elt tg iter : Expr} {ifs : List Expr} {scope : Scope} {own : List (Str × Nat)} {wi : TI} {mi : GML} {tG : TG} {g : D → Env → (Env → Prop) → Prop} {is : List Nat} {tt : TT} {mt : GMT} {te : TE} (hc : X.calm = true) (hN : X.N.Nodup) (hy : X.N[i]? = some y) (hyl : X.env.scope.names.lookup y = some .local)
    (hsw : swapsWith (.ListComp elt [⟨tg, iter, ifs, 0⟩] scope pos) (some (.Name y py)) spos.line X.env = pure true) (hi : GI fr X tg iter wi mi) (ok : BlkOk X.N X.env.scope scope own)
    (hg : ∀ (s : Shared) (H : Hp) (C : Addr) (cl : List (Str × Addr)) (fp : List Addr), GG (X.blk s H scope (compEnvC scope cl C X.env) fp) tg tG g is) (ht : ∀ (s : Shared) (H : Hp) (C : Addr) (cl : List (Str × Addr)) (fp : List Addr), GTs (X.blk s H scope (compEnvC scope cl C X.env) fp) ifs tt mt)
    (he : ∀ (s : Shared) (H : Hp) (C : Addr) (cl : List (Str × Addr)) (fp : List Addr), GD (X.blk s H scope (compEnvC scope cl C X.env) fp) elt te md) (his : ∀ i ∈ is, i ∈ own.map (·.2) := by decide) (hs : ∀ x, foldedSetIterable iter X.env x = pure x := by intro _; rfl) :
    GS X (.Assign [.Name y py] (.ListComp elt [⟨tg, iter, ifs, 0⟩] scope pos) spos) (tAsg (tLc wi tG tt te (own.map (·.2))) (gName i)) (mSet i (mLc mi g mt md (own.map (·.2)))) :=
  ⟨ps_setLc hc hN hy hyl hsw hi.pi ok (fun s H C cl fp => (hg s H C cl fp).pg) (fun s H C cl fp => (ht s H C cl fp).pt) (fun s H C cl fp => (he s H C cl fp).pe) hs, fun dr H0i Hi σ ρ H0 H D E B S R L w =>
    snd_dat (snd_lc hi.sn (hg X.s_0 X.H_0 0 [] []).sn his (ht X.s_0 X.H_0 0 [] []).sn (he X.s_0 X.H_0 0 [] []).sn) dr Hi σ ρ H0 H _ _ B R w fun v z A0 A1 B1 S1 dv q =>
      L.nx _ _ A0 A1 B1 (S.trans S1) ((R.step S1).setD i dv) q⟩
end
end GL
end
section
set_option linter.all false
set_option maxRecDepth 100000
set_option maxHeartbeats 2000000
namespace GL
open PySem L2 PySem.Calls PyProof.Rows
variable [TabCx] [XCx]
/-! ### a def's promise -/
def Z.arg : Z → Z
  | .own xs => .bor false xs
  | z => z
def Z.toG : Z → Option G
  | .d x => some (.d x)
  | .bor t xs => some (.bor t xs)
  | .drw => some .drw
  | .own _ => none
theorem Zv.arg {dr : Option Dr} {Hs Hs' H0 H : Hp} {v : V} {z : Z} (h : Zv dr Hs H0 H v z) : Zv dr Hs' H0 H v z.arg := by
  cases h with
  | d h => exact .d h
  | bor h k => exact .bor h k
  | own h k h0 o hs => exact .bor (t := false) (hide_mk h o) k
  | drw e => exact .drw e
theorem ZvAll.arg {dr : Option Dr} {Hs Hs' H0 H : Hp} : ∀ {vs : List V} {zs : List Z}, ZvAll dr Hs H0 H vs zs → ZvAll dr Hs' H0 H vs (zs.map Z.arg)
  | _, _, .nil => .nil
  | _, _, .cons h t => .cons h.arg (ZvAll.arg t)
theorem ZvAll.length {dr : Option Dr} {Hs H0 H : Hp} : ∀ {vs : List V} {zs : List Z}, ZvAll dr Hs H0 H vs zs → vs.length = zs.length
  | _, _, .nil => rfl
  | _, _, .cons _ t => by rw [List.length_cons, List.length_cons, t.length]
abbrev Spc := List Z → (Z → Prop) → Prop
/-- the promise of a def: from arguments (data, readable lists, the draws) S tells what comes back; all else stands still -/
def GSp (S : Spc) : Sp := fun vs H Q _ => ∃ (dr : Option Dr) (H0 : Hp) (zs : List Z) (P : Z → Prop), Bas dr H0 H ∧ ZvAll dr H H0 H vs zs ∧ S zs P ∧
  ∀ v z H0' H', Bas dr H0' H' → Step dr H0 H H0' H' → Zv dr H H0' H' v z → P z → Q v H'
def startG (N : List Str) (zs : List Z) : Env := zs.map Z.toG ++ List.replicate (N.length - zs.length) none
theorem ZvAll.get {dr : Option Dr} {Hs H0 H : Hp} : ∀ {vs : List V} {zs : List Z} {i : Nat} {z : Z}, ZvAll dr Hs H0 H vs zs → zs[i]? = some z → ∃ v, vs[i]? = some v ∧ Zv dr Hs H0 H v z
  | _, _, _, _, .nil, e => by simp at e
  | _, _, 0, _, .cons r _, e => by simp at e; subst e; exact ⟨_, rfl, r⟩
  | _, _, i + 1, _, .cons _ t, e => by
    obtain ⟨v, h1, h2⟩ := ZvAll.get (i := i) t (by simpa using e)
    exact ⟨v, by simpa using h1, h2⟩
theorem startG_own {N : List Str} {zs : List Z} {i : Nat} {xs : List D} : (startG N zs)[i]? ≠ some (some (.own xs)) := by
  intro e
  unfold startG at e
  by_cases hi : i < (zs.map Z.toG).length
  · rw [List.getElem?_append_left hi, List.getElem?_map] at e
    cases q : zs[i]? with
    | none => rw [q] at e; cases e
    | some z => rw [q] at e; cases z <;> cases e
  · rw [List.getElem?_append_right (Nat.le_of_not_lt hi), List.getElem?_replicate] at e
    split at e <;> cases e
theorem rs_start {K : PySem.W.Frag} {dr : Option Dr} {H0 H : Hp} {N : List Str} {vs : List V} {zs : List Z} (h : ZvAll dr H H0 H vs zs) (hxs : XCx.act → dr = XCx.dr0 ∧ Step dr XCx.h0 XCx.h1 H0 H) (hhx : ∀ p, XCx.act → H p = none → XCx.h1 p = none) : Rs K dr H H0 H (L2.start N vs) (startG N zs) := by
  refine ⟨?_, fun i g e => ?_, fun i j p xs ys _ e _ => absurd e startG_own, hxs, hhx⟩
  · unfold L2.start startG
    simp [h.length]
  · unfold startG at e
    by_cases hi : i < (zs.map Z.toG).length
    · rw [List.getElem?_append_left hi, List.getElem?_map] at e
      cases q : zs[i]? with
      | none => rw [q] at e; cases e
      | some z =>
        rw [q] at e
        obtain ⟨v, hv, zv⟩ := h.get q
        refine ⟨v, ?_, ?_⟩
        · unfold L2.start
          have hl : i < (vs.map some).length := by
            have := (List.getElem?_eq_some_iff.mp hv).1
            simpa using this
          rw [List.getElem?_append_left hl, List.getElem?_map, hv]
          rfl
        · cases zv with
          | d h => cases e; exact .d h
          | bor h k => cases e; exact .bor h h k
          | own => cases e
          | drw h => cases e; exact .drw h
    · rw [List.getElem?_append_right (Nat.le_of_not_lt hi), List.getElem?_replicate] at e
      split at e <;> cases e
section
variable {P : Program} {w : World} {K : PySem.W.Frag} {mg : Str → Option Value} {base : Heap}
omit [XCx] in
/-- a def keeps its promise: its body as a term of rules, and the reading over values -/
theorem gfn {x qual : Str} {st : Stmt} {f : Addr} {fd : FuncData} {N ps : List Str} {k : Nat} {S : Spc} {m : GMS} (F : Fun K x qual st f fd) (sc : FnScope N ps (defScope st)) (len : ∀ zs P, S zs P → zs.length = ps.length)
    (hbody : ∀ [XCx] (cdv : Value) (A : Around) (outer : List PySem.Env) (s : Shared) (H : Hp) (E : XK), Room k (A.deeper (envOfC qual (defScope st) s.heap.objs.size f cdv)) →
      ∃ t, GSs (cxOf CX0 P w K mg base N qual (defScope st) f cdv A outer s H E).nox (defBody st) t m)
    (read : ∀ zs P, S zs P → m { nx := fun _ => P (.d .non), rt := P } (startG N zs)) : FnOk P w K mg base CX0 (k + 1) f fd ps (GSp S) := by
  letI : XCx := XCx.off
  refine F.ok sc (fun vs H Q E ⟨dr, H0, zs, P, B, z, s, _⟩ => by rw [z.length]; exact len zs P s) fun cdv A outer s H vs Q E hr ⟨dr, H0, zs, P, B, z, hs, k⟩ => ?_
  obtain ⟨t, ht⟩ := @hbody XCx.off cdv A outer s H E hr
  refine ⟨t, ht.ps, ht.sn dr H0 H _ (startG N zs) H0 H { nx := fun _ => P (.d .non), rt := P } _ B .refl (@rs_start _ XCx.off _ _ _ _ _ _ _ z (fun a => a.elim) (fun _ a => a.elim)) ⟨fun σ ρ A0 A1 B1 S1 R1 q => k .non _ A0 A1 B1 S1 (.d .non) q, fun v z A0 A1 B1 S1 zv q => k v z A0 A1 B1 S1 zv q, fun _ _ _ _ _ _ _ q => q.elim, fun _ _ _ _ _ _ _ q => q.elim, fun _ => B.ex⟩ (read zs P hs)⟩
end
section
variable {X : Cx} {e a b o : Expr} {es : List Expr} {t ta tb : TE} {m ma mb : GM} {pos p : Pos} {tl : TA} {mz : GMA} {md : GMD} {S : Spc} {k : Nat} {f C : Addr} {fd : FuncData} {ps : List Str}
def mCall (S : Spc) (m : GMA) : GM := fun ρ P => m ρ fun zs => S (zs.map Z.arg) P
theorem gsp_use {dr : Option Dr} {H0 H : Hp} {vs : List V} {zs : List Z} {Hs : Hp} {Q : VK} {E : XK} {P : Z → Prop} (B : Bas dr H0 H) (z : ZvAll dr Hs H0 H vs zs) (h : S (zs.map Z.arg) P) (k : ∀ v z H0' H', Bas dr H0' H' → Step dr H0 H H0' H' → Zv dr H H0' H' v z → P z → Q v H') : GSp S vs H Q E :=
  ⟨dr, H0, zs.map Z.arg, P, B, z.arg, h, k⟩
theorem snd_call {K : PySem.W.Frag} {E : XK} (ha : SndA K tl mz) : SndE K (tCall (GSp S) [] E tl) (mCall S mz) := fun dr Hi σ ρ H0 H Q P B R w k =>
  ha dr Hi σ ρ H0 H _ _ B R w fun vs zs A0 A1 B1 S1 z1 w1 => by
    rw [List.append_nil]
    exact gsp_use B1 z1 w1 fun v z C0 C1 B2 S2 z2 p => k v z C0 C1 B2 (S1.trans S2) (z2.from S1) p
theorem ge_call {x : Str} (F : FnOk X.prog X.w X.K X.mg X.base CX0 k f fd ps (GSp S)) (hr : Room k X.A) (hg : Gl X x) (hm : X.mg x = some (.ref f)) (hk : PySem.W.keepIn X.K (.ref f) = true) (hb : Binds X.K fd ps []) (ha : GA X (e :: es) tl mz)
    (pe : PA X (e :: es) tl → PE X (.Call (.Name x p) (e :: es) [] pos) (tCall (GSp S) [] E0 tl)) : GE X (.Call (.Name x p) (e :: es) [] pos) (tCall (GSp S) [] E0 tl) (mCall S mz) := ⟨pe ha.pa, snd_call ha.sn⟩
/-- o.m(..) -/
def mMeth (C : Addr) (nm : Str) (S : Spc) (m : GMD) (mz : GMA) : GM := fun ρ P => m ρ fun x => ∃ ns xs, x = .obj C ns xs ∧ nm ∉ ns ∧ mz ρ fun zs => S (.d x :: zs.map Z.arg) P
theorem lookup_none : ∀ {fs : List (Str × V)} {nm : Str}, nm ∉ fs.map (·.1) → fs.lookup nm = none
  | [], _, _ => rfl
  | (k, v) :: r, nm, h => by
    have h1 : nm ≠ k := fun q => h (by rw [q]; exact List.mem_cons_self)
    have h2 : nm ∉ r.map (·.1) := fun q => h (List.mem_cons_of_mem _ q)
    rw [List.lookup_cons, beq_eq_false_iff_ne.mpr h1]
    exact lookup_none h2
theorem snd_meth {K : PySem.W.Frag} {E : XK} {nm : Str} (ho : SndD K ta md) (ha : SndA K tl mz) : SndE K (tMeth C nm (GSp S) [] E ta tl) (mMeth C nm S md mz) := fun dr Hi σ ρ H0 H Q P B R w k =>
  ho dr Hi σ ρ H0 H _ _ B R w fun v x A0 A1 B1 S1 dv ⟨ns, xs, e, hn, w1⟩ => by
    subst e
    cases dv with
    | @obj q _ dx fs vs _ _ h h1 h2 da =>
      refine ⟨q, dx, fs, rfl, B1.ex _ _ h, lookup_none (by rw [h1]; exact hn), ?_⟩
      exact ha dr Hi σ ρ A0 A1 _ _ B1 (R.step S1) w1 fun vs zs C0 C1 B2 S2 z2 w2 => by
        rw [List.append_nil]
        have d2 : Dv C0 (.ref q) (.obj C ns xs) := (Dv.obj h h1 h2 da).mono S2.e0
        exact ⟨dr, C0, .d (.obj C ns xs) :: zs.map Z.arg, P, B2, .cons (.d d2) z2.arg, w2, fun v z E0 E1 B3 S3 z3 p => k v z E0 E1 B3 ((S1.trans S2).trans S3) (z3.from (S1.trans S2)) p⟩
theorem ge_meth {nm : Str} {apos : Pos} (ho : GD X o ta md) (ha : GA X (e :: es) tl mz) (pe : PE X o ta → PA X (e :: es) tl → PE X (.Call (.Attribute o nm apos) (e :: es) [] pos) (tMeth C nm (GSp S) [] E0 ta tl)) :
    GE X (.Call (.Attribute o nm apos) (e :: es) [] pos) (tMeth C nm (GSp S) [] E0 ta tl) (mMeth C nm S md mz) := ⟨pe ho.pe ha.pa, snd_meth ho.sn ha.sn⟩
theorem ge_meth0 {nm : Str} {apos : Pos} (ho : GD X o ta md) (pe : PE X o ta → PE X (.Call (.Attribute o nm apos) [] [] pos) (tMeth C nm (GSp S) [] E0 ta tNil)) :
    GE X (.Call (.Attribute o nm apos) [] [] pos) (tMeth C nm (GSp S) [] E0 ta tNil) (mMeth C nm S md mANil) := ⟨pe ho.pe, snd_meth ho.sn (ga_nil (X := X)).sn⟩
/-- o.p, a property -/
def mProp (C : Addr) (S : Spc) (m : GMD) : GM := fun ρ P => m ρ fun x => ∃ ns xs, x = .obj C ns xs ∧ S [.d x] P
theorem snd_prop {K : PySem.W.Frag} {E : XK} (ho : SndD K ta md) : SndE K (tProp C (GSp S) [] E ta) (mProp C S md) := fun dr Hi σ ρ H0 H Q P B R w k =>
  ho dr Hi σ ρ H0 H _ _ B R w fun v x A0 A1 B1 S1 dv ⟨ns, xs, e, w1⟩ => by
    subst e
    cases dv with
    | @obj q _ dx fs vs _ _ h h1 h2 da =>
      exact ⟨q, dx, fs, rfl, B1.ex _ _ h, dr, A0, _, P, B1, .cons (.d (.obj h h1 h2 da)) .nil, w1, fun v z C0 C1 B2 S2 z2 p => k v z C0 C1 B2 (S1.trans S2) (z2.from S1) p⟩
theorem ge_prop {nm : Str} (ho : GD X o ta md) (pe : PE X o ta → PE X (.Attribute o nm pos) (tProp C (GSp S) [] E0 ta)) : GE X (.Attribute o nm pos) (tProp C (GSp S) [] E0 ta) (mProp C S md) := ⟨pe ho.pe, snd_prop ho.sn⟩
/-- o.f, a field -/
def lookF (f : Str) : List Str → List D → Option D
  | n :: ns, x :: xs => if n = f then some x else lookF f ns xs
  | _, _ => none
theorem lookF_of {H : Hp} {f : Str} : ∀ {fs : List (Str × V)} {xs : List D} {x : D}, DvAll H (fs.map (·.2)) xs → lookF f (fs.map (·.1)) xs = some x → ∃ v, fs.lookup f = some v ∧ Dv H v x
  | [], _, _, h, e => by cases h; cases e
  | (n, v) :: r, y :: ys, x, .cons h t, e => by
    have e' : (if n = f then some y else lookF f (r.map (·.1)) ys) = some x := e
    by_cases q : n = f
    · rw [if_pos q] at e'
      cases e'
      refine ⟨v, ?_, h⟩
      rw [List.lookup_cons, show (f == n) = true from beq_iff_eq.mpr q.symm]
    · rw [if_neg q] at e'
      obtain ⟨u, h1, h2⟩ := lookF_of t e'
      refine ⟨u, ?_, h2⟩
      rw [List.lookup_cons, show (f == n) = false from beq_eq_false_iff_ne.mpr (Ne.symm q)]
      exact h1
def mFld (C : Addr) (f : Str) (m : GMD) : GM := fun ρ P => m ρ fun x => ∃ ns xs v, x = .obj C ns xs ∧ lookF f ns xs = some v ∧ P (.d v)
theorem ge_fld {f : Str} (ho : GD X o ta md) (c : Cls X.K C) (n : NoAttr X.K C f) (hb : attributeBase o f X.env (eval o X.env) = eval o X.env) : GE X (.Attribute o f pos) (tFld X.K ta f) (mFld C f md) := ⟨pe_fld ho.pe hb, fun dr Hi σ ρ H0 H Q P B R w k =>
  ho.sn dr Hi σ ρ H0 H _ _ B R w fun v x A0 A1 B1 S1 dv ⟨ns, xs, y, e, hl, w1⟩ => by
    subst e
    cases dv with
    | @obj q _ dx fs vs _ _ h h1 h2 da =>
      subst h1 h2
      obtain ⟨u, l, du⟩ := lookF_of da hl
      exact ⟨q, C, dx, fs, u, rfl, B1.ex _ _ h, c, n, l, k u _ A0 A1 B1 S1 (.d du) w1⟩⟩
/-- C(..): the promise of __init__, from the heap ahead of the new instance -/
def GMk (C : Addr) (S : Spc) : Sp := fun vs H Q _ => ∃ (dr : Option Dr) (H0 Hb : Hp) (zs : List Z) (P : Z → Prop) (x dx : Addr) (avs : List V), vs = .ref x :: avs ∧ H = upd (upd Hb dx (.own x)) x (.ins C dx []) ∧ Hb x = none ∧ Hb dx = none ∧ dx ≠ x ∧
  Bas dr H0 Hb ∧ ZvAll dr Hb H0 Hb avs zs ∧ S zs P ∧ ∀ d H0' H', Bas dr H0' H' → Step dr H0 Hb H0' H' → Dv H0' (.ref x) d → P (.d d) → Q .non H'
theorem snd_make {K : PySem.W.Frag} {E : XK} (ha : SndA K tl mz) : SndE K (tMake C (GMk C S) [] E tl) (mCall S mz) := fun dr Hi σ ρ H0 H Q P B R w k =>
  ha dr Hi σ ρ H0 H _ _ B R w fun vs zs A0 A1 B1 S1 z1 w1 => fun x dx hx hdx ne => by
    rw [List.append_nil]
    exact ⟨dr, A0, A1, zs.map Z.arg, P, x, dx, vs, rfl, rfl, hx, hdx, ne, B1, z1.arg, w1, fun d C0 C1 B2 S2 d2 p => ⟨rfl, k _ _ C0 C1 B2 (S1.trans S2) (.d d2) p⟩⟩
theorem ge_make {x : Str} (ha : GA X (e :: es) tl mz) (pe : PA X (e :: es) tl → PE X (.Call (.Name x p) (e :: es) [] pos) (tMake C (GMk C S) [] E0 tl)) : GE X (.Call (.Name x p) (e :: es) [] pos) (tMake C (GMk C S) [] E0 tl) (mCall S mz) := ⟨pe ha.pa, snd_make ha.sn⟩
/-- self.f = e, within __init__ -/
def mFldS (C : Addr) (i : Nat) (f : Str) (m : GMD) : GMS := fun D ρ => ∃ a ns xs, ρ[i]? = some (some (.mk a C ns xs)) ∧ (∀ (j : Nat) (ns' : List Str) (xs' : List GL.D) (a' C' : Addr), i ≠ j → ρ[j]? ≠ some (some (G.mk a' C' ns' xs'))) ∧ f ∉ ns ∧ ns.length < 1000 ∧ m ρ fun y => D.nx (ρ.set i (some (.mk a C (ns ++ [f]) (xs ++ [y]))))
theorem putF_new {f : Str} {v : V} : ∀ {fs : List (Str × V)}, f ∉ fs.map (·.1) → putF f v fs = fs ++ [(f, v)]
  | [], _ => rfl
  | (n, u) :: r, h => by
    have h1 : ¬ n = f := fun q => h (by rw [q]; exact List.mem_cons_self)
    have h2 : f ∉ r.map (·.1) := fun q => h (List.mem_cons_of_mem _ q)
    show (if n = f then (n, v) :: r else (n, u) :: putF f v r) = _
    rw [if_neg h1, putF_new h2]
    rfl
theorem Rs.mkPut {K : PySem.W.Frag} {dr : Option Dr} {Hi H0 H : Hp} {σ : L2.St} {ρ : Env} (r : Rs K dr Hi H0 H σ ρ) {i : Nat} {q dx C : Addr} {fs : List (Str × V)} {ns : List Str} {xs : List D} {f : Str} {v : V} {y : D} (hi : ρ[i]? = some (some (.mk q C ns xs))) (hq : σ[i]? = some (some (.ref q))) (uq : ∀ (j : Nat) (ns' : List Str) (xs' : List D) (a' C' : Addr), i ≠ j → ρ[j]? ≠ some (some (G.mk a' C' ns' xs')))
    (h : H q = some (.ins C dx fs)) (h1 : fs.map (·.1) = ns) (da : DvAll H0 (fs.map (·.2)) xs) (h0 : H0 q = none) (o : Out dr q) (hh : Hi q = none) (dv : Dv H0 v y) : Rs K dr Hi H0 (upd H q (.ins C dx (fs ++ [(f, v)]))) σ (ρ.set i (some (.mk q C (ns ++ [f]) (xs ++ [y])))) := by
  have hl : i < ρ.length := by
    by_cases hl : i < ρ.length
    · exact hl
    · rw [List.getElem?_eq_none (by simpa using hl)] at hi; cases hi
  refine ⟨by rw [List.length_set, r.len], fun j g' e => ?_, fun j k p xs' ys' ne e1 e2 e3 => ?_, fun a => ⟨(r.xs a).1, (r.xs a).2.mut (r.hx q a hh)⟩, r.hx⟩
  · by_cases hj : i = j
    · subst hj
      rw [List.getElem?_set_self hl] at e
      cases e
      refine ⟨_, hq, .mk upd_same ?_ rfl ?_ h0 o hh⟩
      · rw [List.map_append, h1]; rfl
      · rw [List.map_append]; exact da.append (.cons dv .nil)
    · rw [List.getElem?_set_ne hj] at e
      obtain ⟨u, hv, gv⟩ := r.at_ j _ e
      refine ⟨u, hv, ?_⟩
      cases gv with
      | d h => exact .d h
      | bor b1 b2 b3 => exact .bor b1 (hide_mk (by rw [upd_ne (by rintro rfl; rw [(hide_some b1).1] at hh; cases hh)]; exact (hide_some b2).1) (hide_some b2).2) b3
      | drw h => exact .drw h
      | scr h => exact .scr h
      | own a b c d e' => exact .own (by rw [upd_ne (by rintro rfl; rw [h] at a; cases a)]; exact a) b c d e'
      | mk => exact absurd e (uq j _ _ _ _ hj)
      | frs h f => exact .frs h f
      | odc a h1 h2 k h0 o hi' => exact .odc (by rw [upd_ne (by rintro rfl; rw [h] at a; cases a)]; exact a) h1 h2 k h0 o hi'
      | odt a h1 h2 k h0 o hi' => exact .odt (by rw [upd_ne (by rintro rfl; rw [h] at a; cases a)]; exact a) h1 h2 k h0 o hi'
  · have own : ∀ (m : Nat) (zs : List D), (ρ.set i (some (.mk q C (ns ++ [f]) (xs ++ [y]))))[m]? = some (some (.own zs)) → ρ[m]? = some (some (G.own zs)) := fun m zs e => by
      by_cases hm : i = m
      · subst hm
        rw [List.getElem?_set_self hl] at e; cases e
      · rw [List.getElem?_set_ne hm] at e; exact e
    have a1 : ρ[j]? = some (some (G.own xs')) := by
      by_cases hm : i = j
      · subst hm
        rw [List.getElem?_set_self hl] at e1; cases e1
      · rw [List.getElem?_set_ne hm] at e1; exact e1
    have a2 : ρ[k]? = some (some (G.own ys')) := by
      by_cases hm : i = k
      · subst hm
        rw [List.getElem?_set_self hl] at e2; cases e2
      · rw [List.getElem?_set_ne hm] at e2; exact e2
    exact r.dist j k p _ _ ne a1 a2 e3
/-! ### methods that change a list of one's own, by statements -/
def mApp (i : Nat) (m : GMD) : GMS := fun D ρ => ∃ xs, ρ[i]? = some (some (.own xs)) ∧ m ρ fun y => xs.length < sizeLine ∧ D.nx (ρ.set i (some (.own (xs ++ [y]))))
theorem own_kept {dr : Option Dr} {H0 H A0 A1 : Hp} {p : Addr} {o' : HO} (S : Step dr H0 H A0 A1) (h : H p = some o') (h0 : H0 p = none) (o : Out dr p) : A0 p = none := by
  cases q : A0 p with
  | none => rfl
  | some u =>
    rcases S.nw _ _ o q with e | e
    · rw [h0] at e; cases e
    · rw [h] at e; cases e
theorem gs_app {i : Nat} {name : Str} {apos cpos : Pos} (he : GD X e t md) (pe : PE X e t → PE X (.Call (.Attribute o name apos) [e] [] cpos) (tBM X.K "list" rAppend (tVar i) (tCons t tNil))) (hs : swapsWith (.Call (.Attribute o name apos) [e] [] cpos) none pos.line X.env = pure false := by rfl) :
    GS X (.Expr (.Call (.Attribute o name apos) [e] [] cpos) pos) (tDrop (tBM X.K "list" rAppend (tVar i) (tCons t tNil))) (mApp i md) := ⟨ps_expr (pe he.pe) hs, fun dr H0i Hi σ ρ H0 H D E B S R L ⟨xs, hx, w⟩ => by
  obtain ⟨v, hv, gv⟩ := R.at_ i _ hx
  cases gv with
  | own h k h0 o hi =>
    refine ⟨_, hv, .inl ⟨rfl, _, .of h⟩, ?_⟩
    refine he.sn dr Hi σ ρ H0 H _ _ B R w fun y yd A0 A1 B1 S1 dy ⟨hz, q⟩ => ?_
    refine ⟨_, _, _, rfl, rfl, S1.same h o, by rw [k.length]; exact hz, ?_⟩
    exact L.nx _ _ A0 _ (B1.upd (own_kept S1 h h0 o) o (by rw [S1.same h o]; trivial)) ((S.trans S1).mut hi) ((R.step S1).mut hx hv ((k.mono S1.e0).append (.cons dy .nil))) q⟩
/-- x.extend(e) -/
def mExt (i : Nat) (m : GM) : GMS := fun D ρ => ∃ xs, ρ[i]? = some (some (.own xs)) ∧ m ρ fun z => ∃ ys, z.seq = some (false, ys) ∧ xs.length + ys.length ≤ sizeLine ∧ D.nx (ρ.set i (some (.own (xs ++ ys))))
theorem gs_ext {i : Nat} {name : Str} {apos cpos : Pos} (he : GE X e t m) (pe : PE X e t → PE X (.Call (.Attribute o name apos) [e] [] cpos) (tBM X.K "list" rExtend (tVar i) (tCons t tNil))) (hs : swapsWith (.Call (.Attribute o name apos) [e] [] cpos) none pos.line X.env = pure false := by rfl) :
    GS X (.Expr (.Call (.Attribute o name apos) [e] [] cpos) pos) (tDrop (tBM X.K "list" rExtend (tVar i) (tCons t tNil))) (mExt i m) := ⟨ps_expr (pe he.pe) hs, fun dr H0i Hi σ ρ H0 H D E B S R L ⟨xs, hx, w⟩ => by
  obtain ⟨v, hv, gv⟩ := R.at_ i _ hx
  cases gv with
  | own h k h0 o hi =>
    refine ⟨_, hv, .inl ⟨rfl, _, .of h⟩, ?_⟩
    refine he.sn dr Hi σ ρ H0 H _ _ B R w fun y z A0 A1 B1 S1 zv ⟨ys, hq, hz, q⟩ => ?_
    obtain ⟨b, ws, e1, hb, db⟩ := zv.seq B1 hq
    subst e1
    refine ⟨_, _, _, _, rfl, rfl, S1.same h o, (hide_some hb).1, by rw [k.length, db.length]; exact hz, ?_⟩
    exact L.nx _ _ A0 _ (B1.upd (own_kept S1 h h0 o) o (by rw [S1.same h o]; trivial)) ((S.trans S1).mut hi) ((R.step S1).mut hx hv ((k.mono S1.e0).append db)) q⟩
theorem gs_fld {i : Nat} {f : Str} {pos' : Pos} (ho : PE X o (tVar i)) (he : GD X e t md) (c : Cls X.K C) (n : NoAttr X.K C f) (hs : swapsWith e (some (.Attribute o f pos')) pos.line X.env = pure false := by rfl) : GS X (.Assign [.Attribute o f pos'] e pos) (sFld X.K (tVar i) t f) (mFldS C i f md) :=
  ⟨ps_fld ho he.pe hs, fun dr H0i Hi σ ρ H0 H D E B S R L ⟨_, ns, xs, hx, uq, hn, hl, w⟩ => by
    refine he.sn dr Hi σ ρ H0 H _ _ B R w fun y yd A0 A1 B1 S1 dy q => ?_
    obtain ⟨v, hv, gv⟩ := (R.step S1).at_ i _ hx
    cases gv with
    | @mk a dx _ fs vs _ _ h h1 h2 k h0 o hi =>
      subst h2
      refine ⟨_, hv, _, C, dx, fs, rfl, h, c, n, ?_, ?_⟩
      · have := congrArg List.length h1
        rw [List.length_map] at this
        omega
      · rw [putF_new (by rw [h1]; exact hn)]
        exact L.nx _ _ A0 _ (B1.upd h0 o (by rw [h]; trivial)) ((S.trans S1).mut hi) ((R.step S1).mkPut hx hv uq h h1 k h0 o hi dy) q⟩
end
end GL
end
section
set_option linter.all false
set_option maxRecDepth 100000
set_option maxHeartbeats 2000000
namespace GL
open PySem L2 PySem.Calls PyProof.Rows
variable [TabCx] [XCx]
/-! ### defs that run where no repr is going on -/
structure FnG (P : Program) (w : World) (K : PySem.W.Frag) (mg : Str → Option Value) (base : Heap) (k : Nat) (f : Addr) (fd : FuncData) (ps : List Str) (sp : Sp) : Prop where
  len : ∀ vs H Q E, sp vs H Q E → vs.length = ps.length
  run : ∀ (A : Around) (outer : List PySem.Env) (s : Shared) (H : Hp) (args : Args) (us : List Value) (vs : List V) (Q : VK), Room k A → A.guards = some [] → Env0 P w K mg base A outer s H → BindsTo s fd args (ps.zip us) → Vals vs us → sp vs H Q E0 →
    codeAny (model P w) A (.call (.ref f) args) (CR CX0 outer P w H s Q E0) s
section
variable {P : Program} {w : World} {K : PySem.W.Frag} {mg : Str → Option Value} {base : Heap}
theorem fng_of {k : Nat} {f : Addr} {x qual : Str} {st : Stmt} {fd : FuncData} {N ps : List Str} {sp : Sp} (F : Fun K x qual st f fd) (sc : FnScope N ps (defScope st)) (len : ∀ vs H Q E, sp vs H Q E → vs.length = ps.length)
    (hbody : ∀ (cdv : Value) (A : Around) (outer : List PySem.Env) (s : Shared) (H : Hp) (vs : List V) (Q : VK), Room k (A.deeper (envOfC qual (defScope st) s.heap.objs.size f cdv)) → A.guards = some [] → sp vs H Q E0 →
      ∃ t, PSs (cxOf CX0 P w K mg base N qual (defScope st) f cdv A outer s H E0).nox (defBody st) t ∧ t { nx := fun _ H' => Q .non H', rt := Q } (L2.start N vs) H) : FnG P w K mg base (k + 1) f fd ps sp := by
  obtain ⟨oc, od, kV, doc, pm, an, cdv, ct, osl, rfl, lk, hcd⟩ := F.ex
  constructor
  · exact len
  intro A outer s H args us vs Q room gu e0 bnd rel want
  have same_len := len _ _ _ _ want
  have inK : K.In s.heap := e0.mod.kin.keeps fun b o h => (e0.bs b o h).1
  have kinds : ∀ y ∈ ps.zip us, (defScope st).names.lookup y.1 = some .local ∨ ((defScope st).names.lookup y.1 = some .cell ∧ ((cellsFrom (s.heap.objs.size + 1) (defScope st).names []).lookup y.1).isSome = true) := by
    rintro ⟨nm, val⟩ mem
    rcases sc.par nm (List.of_mem_zip mem).1 with h | h
    · exact Or.inl h
    · exact Or.inr ⟨h, PySem.W.cellsFrom_some _ _ _ (Or.inl h)⟩
  refine codeAny_call_function room.depth (inK _ _ lk) rfl sc.co sc.gen rfl (PySem.W.codeRec_of inK hcd) (bnd _ _ _ _ ?_)
  refine wpAny_newFunctionEnv_cells sc.kind kinds ?_
  intro env henv s1 incall
  subst henv
  refine ⟨(e0.mod.nolimit.keeps fun b o h => (e0.bs b o h).1).keeps incall.toInCall.keep, codeAny_func ?_⟩
  obtain ⟨t, derivation, reading⟩ := hbody cdv A outer s H vs Q (room.deeper _) gu want
  have inv : Inv (cxOf CX0 P w K mg base N qual (defScope st) f cdv A outer s H E0) [] (L2.start N vs) H s1 := inv_start sc room.hd e0 same_len rel incall
  refine wpAny_mono (derivation.nox.run [] s1 _ H _ inv reading) ?_ (fun _ _ z => z)
  rintro (_ | _ | _ | u) s' h
  · obtain ⟨σ2, H2, J, q⟩ := h
    exact ⟨.non, H2, J.os, J.bare, J.base, J.hok, rfl, q⟩
  · obtain ⟨_, _, _, q⟩ := h
    exact False.elim q
  · obtain ⟨_, _, _, q⟩ := h
    exact False.elim q
  · obtain ⟨v, σ2, H2, J, rv, q⟩ := h
    exact ⟨v, H2, J.os, J.bare, J.base, J.hok, rv, q⟩
omit [XCx] in
theorem gfnG {x qual : Str} {st : Stmt} {f : Addr} {fd : FuncData} {N ps : List Str} {k : Nat} {S : Spc} {m : GMS} (F : Fun K x qual st f fd) (sc : FnScope N ps (defScope st)) (len : ∀ zs P, S zs P → zs.length = ps.length)
    (hbody : ∀ [XCx] (cdv : Value) (A : Around) (outer : List PySem.Env) (s : Shared) (H : Hp), Room k (A.deeper (envOfC qual (defScope st) s.heap.objs.size f cdv)) → A.guards = some [] →
      ∃ t, GSs (cxOf CX0 P w K mg base N qual (defScope st) f cdv A outer s H E0).nox (defBody st) t m)
    (read : ∀ zs P, S zs P → m { nx := fun _ => P (.d .non), rt := P } (startG N zs)) : FnG P w K mg base (k + 1) f fd ps (GSp S) := by
  letI : XCx := XCx.off
  refine fng_of F sc (fun vs H Q E ⟨dr, H0, zs, P, B, z, s, _⟩ => by rw [z.length]; exact len zs P s) fun cdv A outer s H vs Q hr gu ⟨dr, H0, zs, P, B, z, hs, k⟩ => ?_
  obtain ⟨t, ht⟩ := @hbody XCx.off cdv A outer s H hr gu
  refine ⟨t, ht.ps, ht.sn dr H0 H _ (startG N zs) H0 H { nx := fun _ => P (.d .non), rt := P } _ B .refl (@rs_start _ XCx.off _ _ _ _ _ _ _ z (fun a => a.elim) (fun _ a => a.elim)) ⟨fun σ ρ A0 A1 B1 S1 R1 q => k .non _ A0 A1 B1 S1 (.d .non) q, fun v z A0 A1 B1 S1 zv q => k v z A0 A1 B1 S1 zv q, fun _ _ _ _ _ _ _ q => q.elim, fun _ _ _ _ _ _ _ q => q.elim, fun _ => B.ex⟩ (read zs P hs)⟩
end
section
variable {X : Cx} {x : Str} {e : Expr} {es : List Expr} {tl : TA} {mz : GMA} {p pos : Pos} {S : Spc} {sp : Sp} {k : Nat} {f : Addr} {fd : FuncData} {ps : List Str}
theorem pe_callG (F : FnG X.prog X.w X.K X.mg X.base k f fd ps sp) (hr : Room k X.A) (gu : X.A.guards = some []) (hg : Gl X x) (hm : X.mg x = some (.ref f)) (hk : PySem.W.keepIn X.K (.ref f) = true) (hb : Binds X.K fd ps []) (ha : PA X (e :: es) tl)
    (hst : starEach (e :: es) X.env = (false, eval e X.env) :: starEach es X.env := by rfl) (hpl : (backTo pos (starEach es X.env)).any (·.1) = false := by rfl) (hdb : (x == ("__debug__" : Str)) = false := by decide) :
    PE X (.Call (.Name x p) (e :: es) [] pos) (tCall sp [] E0 tl) := by
  constructor
  intro pins s σ H Q I h
  refine wpAny_Call_Name_kw (ld_glob I hg hm ?_ hdb)
  refine PySem.W.callWith_K (h₀ := X.base) I.ok.mod.kin hk (thn (ha.run pos pins s σ H _ I h) ?_) hst hpl
  rintro us s1 ⟨vs, H1, I1, rel, want⟩
  rw [List.append_nil] at want
  refine ⟨I1.kIn, wpAny_call (codeAny_mono (F.run X.A X.stack s1 H1 ⟨us, []⟩ us vs Q hr gu I1.env0 ?_ rel want) ?_)⟩
  · have := hb s1 us I1.kIn (by rw [List.append_nil, ← rel.length]; exact F.len _ _ _ _ want)
    rwa [List.append_nil] at this
  · rintro (er | (_ | _ | _ | u)) s2 hq
    · exact False.elim hq
    · exact False.elim hq
    · exact False.elim hq
    · exact False.elim hq
    · exact I1.after hq
theorem ge_callG (F : FnG X.prog X.w X.K X.mg X.base k f fd ps (GSp S)) (hr : Room k X.A) (gu : X.A.guards = some []) (hg : Gl X x) (hm : X.mg x = some (.ref f)) (hk : PySem.W.keepIn X.K (.ref f) = true) (hb : Binds X.K fd ps []) (ha : GA X (e :: es) tl mz)
    (hst : starEach (e :: es) X.env = (false, eval e X.env) :: starEach es X.env := by rfl) (hpl : (backTo pos (starEach es X.env)).any (·.1) = false := by rfl) (hdb : (x == ("__debug__" : Str)) = false := by decide) :
    GE X (.Call (.Name x p) (e :: es) [] pos) (tCall (GSp S) [] E0 tl) (mCall S mz) := ⟨pe_callG F hr gu hg hm hk hb ha.pa hst hpl hdb, snd_call ha.sn⟩
end
/-! ### the end -/
section
variable {P : Program} {w : World} {K : PySem.W.Frag} {mg mb : Str → Option Value}
theorem law_callG {k : Nat} {fa a : Addr} {fd : FuncData} {x : Str} {sp : Sp} {s1 : Shared} {vs : List Value} {ns : List Int} (kin : K.In s1.heap) (glob : s1.heap.Ns mainGlobals mg) (bl : s1.heap.Ns builtinsNs mb) (blb : ∀ x : Str, x ≠ "__name__" → mb x = bootBuiltins x)
    (lim : s1.heap.NoLimit) (gens : s1.gens = #[]) (ha : s1.heap.get? a = some { cls := .type "list", data := .seq vs.toArray }) (hints : IntsAre vs ns) (short : ns.length ≤ sizeLine) (room : Room k callerA)
    (F : ∀ base : Heap, K.In base → base.Ns mainGlobals mg → FnG P w K mg base k fa fd [x] sp) (bnd : ∀ (s : Shared) (u : Value), BindsTo s fd ⟨[u], []⟩ [(x, u)])
    (want : ∀ H : Hp, Only H → SqL K H a (ns.map V.int) → sp [.ref a] H (fun v _ => v = .bl true) E0) :
    codeAny (model P w) callerA (.call (.ref fa) ⟨[.ref a], []⟩) (fun r s' => r = .ok (.ret (.bool true)) ∧ OldK s1.heap s'.heap ∧ s'.os = s1.os ∧ AllBare s'.gens) s1 := by
  have rel := vals_ints hints
  have il := hints.length
  have main : ∀ H : Hp, Only H → SqL K H a (ns.map V.int) → HOk P w H s1.heap → (∀ b, H b ≠ none → b = a) → (H a ≠ none → K.lookup a = none) →
      codeAny (model P w) callerA (.call (.ref fa) ⟨[.ref a], []⟩) (fun r s' => r = .ok (.ret (.bool true)) ∧ OldK s1.heap s'.heap ∧ s'.os = s1.os ∧ AllBare s'.gens) s1 := by
    intro H only seq hok alone noK
    have still : ∀ {b : Addr} {o : Obj} {es : Array DictEntry} {ep : Nat}, s1.heap.get? b = some o → o.data = .dict es ep → H b = none := by
      intro b o es ep hb hd
      cases hq : H b with
      | none => rfl
      | some u =>
        have := alone b (by rw [hq]; exact fun z => nomatch z)
        subst this
        rw [ha] at hb
        cases hb
        exact nomatch (show Data.seq vs.toArray _ = Data.dict es ep from hd)
    have nss : ∀ {b : Addr} {mm : Str → Option Value}, s1.heap.Ns b mm → (hidT s1.heap H).Ns b mm := by
      rintro b mm ⟨o, es, ep, h1, h2, h3⟩
      exact ⟨o, es, ep, hidT_get h1 (still h1 h2), h2, h3⟩
    have kinB : K.In (hidT s1.heap H) := by
      intro b o hb
      refine hidT_get (kin b o hb) ?_
      cases hq : H b with
      | none => rfl
      | some u =>
        have := alone b (by rw [hq]; exact fun z => nomatch z)
        subst this
        rw [noK (by rw [hq]; exact fun z => nomatch z)] at hb
        cases hb
    have modl : Mod K mg (hidT s1.heap H) := by
      obtain ⟨mc, c1, c2⟩ := lim
      exact ⟨kinB, nss glob, ⟨mb, nss bl, blb⟩, ⟨mc, nss c1, c2⟩⟩
    have env : Env0 P w K mg (hidT s1.heap H) callerA [] s1 H :=
      ⟨rfl, modl, fun _ _ h => of_hidT h, Nat.le_of_eq (hidT_size _ _), trivial, (fun b hb => nomatch (show b ∈ ([] : List Addr) from hb)), hok, AllBare.of_eq gens⟩
    refine codeAny_mono ((F _ kinB (nss glob)).run callerA [] s1 H ⟨[.ref a], []⟩ [.ref a] [.ref a] _ room rfl env (bnd s1 (.ref a)) (.cons rfl .nil) (want H only seq)) ?_
    rintro (er | (_ | _ | _ | u)) s' h
    · exact False.elim h
    · exact False.elim h
    · exact False.elim h
    · exact False.elim h
    · obtain ⟨v, H', os, bare, un, hok', rv, q⟩ := h
      have q' : v = .bl true := q
      subst q'
      obtain rfl : u = Value.bool true := rv
      refine ⟨rfl, OldK.of_keep ?_, os, bare⟩
      intro b o hb
      cases hq : H b with
      | none => exact un.keep b o hb hq (fun z => nomatch (show b ∈ ([] : List Addr) from z)) (fun z => nomatch z)
      | some u =>
        rcases only b with z | ⟨ob, xs, z⟩
        · rw [hq] at z; cases z
        · obtain ⟨e1, _⟩ := hok b _ z
          obtain ⟨e2, _⟩ := hok' b _ (un.frzs b ob _ z)
          rw [hb] at e1
          cases e1
          exact e2
  cases hk : K.lookup a with
  | some o =>
    have := kin a o hk
    rw [ha] at this
    cases this
    exact main (fun _ => none) (fun _ => Or.inl rfl) (Or.inr ⟨_, vs.toArray, _, hk, rfl, rfl, rfl, by rw [List.size_toArray, il]; exact short, by simpa using rel⟩) (fun b u z => nomatch (show (none : Option HO) = some u from z)) (fun b z => absurd rfl z) (fun z => absurd rfl z)
  | none =>
    have at_ : ∀ b, b = a → (fun b => if b = a then some (HO.frz { cls := .type "list", data := .seq vs.toArray } (.lst (ns.map V.int))) else none) b = some (HO.frz { cls := .type "list", data := .seq vs.toArray } (.lst (ns.map V.int))) := fun b h => if_pos h
    have off : ∀ b, b ≠ a → (fun b => if b = a then some (HO.frz { cls := .type "list", data := .seq vs.toArray } (.lst (ns.map V.int))) else none) b = none := fun b h => if_neg h
    refine main (fun b => if b = a then some (HO.frz { cls := .type "list", data := .seq vs.toArray } (.lst (ns.map V.int))) else none) (fun b => ?_) (Or.inl (Or.inr ⟨_, at_ a rfl⟩)) (fun b u z => ?_) (fun b z => ?_) fun _ => hk
    · by_cases h : b = a
      · exact Or.inr ⟨_, _, at_ b h⟩
      · exact Or.inl (off b h)
    · by_cases h : b = a
      · have z' := (at_ b h).symm.trans z
        cases z'
        subst h
        exact ⟨ha, by rw [List.length_map]; exact short, vs, _, rel, ha⟩
      · have z' := (off b h).symm.trans z
        cases z'
    · exact Classical.byContradiction fun h => z (off b h)
end
theorem walk_ofG {l : PySem.W.OpenLaw} {n k : Nat} {q : Program} {loose : List Str} {XP : (Str → Option Value) → Heap → Prop} {YP : World → Heap → Prop} {d : DefRec} {K : Params → PySem.W.Frag} {sp : World → Sp} {x : Str} (hn : l.most = some n) (hn2 : n ≤ sizeLine) (hdf : d.params.defaults = []) (hr : Room k callerA)
    (hY : ∀ (w : World) (h : Heap), YP w h → (K w.params).In h)
    (F : ∀ (w : World) (mg : Str → Option Value) (fa : Addr) (h : Heap), (K w.params).In h → h.Ns mainGlobals mg → mg d.name = some (.ref fa) →
      ∃ fd : FuncData, (∀ (s : Shared) (u : Value), BindsTo s fd ⟨[u], []⟩ [(x, u)]) ∧ ∀ base : Heap, (K w.params).In base → base.Ns mainGlobals mg → FnG l.prog w (K w.params) mg base k fa fd [x] (sp w))
    (hsp : ∀ (w : World) (H : Hp) (a : Addr) (ns : List Int), ns.length ≤ n → Only H → SqL (K w.params) H a (ns.map V.int) → sp w [.ref a] H (fun v _ => v = .bl true) E0) :
    PySem.W.WalkO q loose XP YP l.row.toRowW d [] (fun f vs => PySem.call f vs) := by
  refine Att.attach_call hn hdf ?_
  intro w s₀ s₁ mg mb fa o pm cd doc a vs ns G Y ho hd hcd hmg hobj hints hlen hgen
  obtain ⟨fd, b1, b2⟩ := F w mg fa _ (hY w _ Y) G.T.g hmg
  exact law_callG (hY w _ Y) G.T.g G.T.b G.T.builtins G.T.nolimit hgen hobj hints (Nat.le_trans hlen hn2) hr b2 b1 fun H h1 h2 => hsp w H a ns hlen h1 h2
end GL
end
section
set_option linter.all false
set_option maxRecDepth 100000
set_option maxHeartbeats 2000000
namespace GL
open PySem L2 PySem.Calls PyProof.Rows
variable [TabCx] [XCx]
/-! ### data as the library's data -/
mutual
def D.py : D → PyData
  | .non => .none
  | .bl b => .bool b
  | .int i => .int i
  | .str x => .str x
  | .lst xs => .list (D.pys xs)
  | .tup xs => .tuple (D.pys xs)
  | .dic _ _ => .none
  | .obj _ _ _ => .none
  | .dit _ _ => .none
def D.pys : List D → List PyData
  | [] => []
  | x :: xs => D.py x :: D.pys xs
end
mutual
/-- no dict, no object within -/
def D.plain : D → Bool
  | .non | .bl _ | .int _ | .str _ => true
  | .lst xs | .tup xs => D.plains xs
  | .dic _ _ => false
  | .obj _ _ _ => false
  | .dit _ _ => false
def D.plains : List D → Bool
  | [] => true
  | x :: xs => D.plain x && D.plains xs
end
theorem D.pys_eq : ∀ xs : List D, D.pys xs = xs.map D.py
  | [] => by simp [D.pys]
  | x :: xs => by simp [D.pys, D.pys_eq xs]
theorem D.plains_eq : ∀ xs : List D, D.plains xs = xs.all D.plain
  | [] => by simp [D.plains]
  | x :: xs => by simp [D.plains, D.plains_eq xs]
mutual
theorem Dv.dp {K : PySem.W.Frag} {H : Hp} : ∀ {v : V} {d : D}, Dv H v d → d.plain = true → Dp K H v d.py
  | _, _, .non, _ => by simpa [D.py] using Dp.non
  | _, _, .bl b, _ => by simpa [D.py] using Dp.bl b
  | _, _, .int b, _ => by simpa [D.py] using Dp.int b
  | _, _, .str b, _ => by simpa [D.py] using Dp.str b
  | _, _, .lst h k, p => by
    have q := DvAll.dp (K := K) k (by simpa [D.plain] using p)
    simpa [D.py] using Dp.lst (.of h) q
  | _, _, .tup h k, p => by
    have q := DvAll.dp (K := K) k (by simpa [D.plain] using p)
    simpa [D.py] using Dp.tup (.of h) q
  | _, _, .dic _ _ _ _, p => by simp [D.plain] at p
  | _, _, .obj _ _ _ _, p => by simp [D.plain] at p
  | _, _, .dit _ _ _ _, p => by simp [D.plain] at p
theorem DvAll.dp {K : PySem.W.Frag} {H : Hp} : ∀ {vs : List V} {ds : List D}, DvAll H vs ds → D.plains ds = true → DpAll K H vs (D.pys ds)
  | _, _, .nil, _ => by simpa [D.pys] using DpAll.nil
  | _, d :: ds, .cons h k, p => by
    have p' : D.plain d = true ∧ D.plains ds = true := by simpa [D.plains] using p
    simpa [D.pys] using DpAll.cons (h.dp p'.1) (k.dp p'.2)
end
/-- all of a value's content -/
def Z.cont : Z → Option D
  | .d x => some x
  | .own xs => some (.lst xs)
  | .bor false xs => some (.lst xs)
  | .bor true xs => some (.tup xs)
  | .drw => none
theorem Zv.dp {dr : Option Dr} {K : PySem.W.Frag} {Hs H0 H : Hp} {v : V} {z : Z} {x : D} (B : Bas dr H0 H) (h : Zv dr Hs H0 H v z) (e : z.cont = some x) (p : x.plain = true) : Dp K H v x.py := by
  cases h with
  | d h => cases e; exact (h.mono B.ex).dp p
  | own h k => cases e; exact (Dv.lst h (k.mono B.ex)).dp p
  | @bor t _ _ _ h k =>
    cases t with
    | false => cases e; exact (Dv.lst (hide_some h).1 (k.mono B.ex)).dp p
    | true => cases e; exact (Dv.tup (hide_some h).1 (k.mono B.ex)).dp p
  | drw => cases e
/-- data that the machine lays and compares -/
def D.ok (x : D) : Prop := x.plain = true ∧ SeqAt.shaped x.py = true
/-! ### comparisons -/
def fEq (neg : Bool) : Z → Z → (Z → Prop) → Prop := fun x y P => ∃ a b, x.cont = some a ∧ y.cont = some b ∧ a.ok ∧ b.ok ∧ P (.d (.bl (if neg then !PyData.eqv a.py b.py else PyData.eqv a.py b.py)))
theorem os_eq {K : PySem.W.Frag} : OpS (rEqD K) (fEq false) := fun dr Hs Hs' H0 H x y zx zy Q P B hx hy ⟨a, b, ea, eb, oa, ob, p⟩ k =>
  ⟨a.py, b.py, hx.dp B ea oa.1, hy.dp B eb ob.1, oa.2, ob.2, k _ _ H0 H B .refl (.d (.bl _)) p⟩
theorem os_ne {K : PySem.W.Frag} : OpS (rNeD K) (fEq true) := fun dr Hs Hs' H0 H x y zx zy Q P B hx hy ⟨a, b, ea, eb, oa, ob, p⟩ k =>
  ⟨a.py, b.py, hx.dp B ea oa.1, hy.dp B eb ob.1, oa.2, ob.2, k _ _ H0 H B .refl (.d (.bl _)) p⟩
/-- x in xs, a list or a tuple of data -/
def rInA (K : PySem.W.Frag) (neg : Bool) : R2 := fun x y H Q => ∃ d ds, Dp K H x d ∧ (Dp K H y (.list ds) ∨ Dp K H y (.tuple ds)) ∧ SeqAt.shaped d = true ∧ SeqAt.shaped (.list ds) = true ∧ Q (.bl (if neg then !ds.any (fun z => PyData.eqv z d) else ds.any (fun z => PyData.eqv z d))) H
section
variable {X : Cx}
theorem op_inA (hu : X.A.units + 65 < cLine) : OpR X (compareOp .In) (rInA X.K false) := by
  intro pins s σ H x y v u Q I rx ry h
  obtain ⟨d, ds, hd, he, sd, se, q⟩ := h
  obtain ⟨as, r1⟩ := Dp.reads I d x v hd rx
  rcases he with he | he
  · obtain ⟨bs, r2⟩ := Dp.reads I (.list ds) y u he ry
    exact SeqAt.in_list_reads r2 r1 (SeqAt.canLay_of_shaped se) (SeqAt.canLay_of_shaped sd) (room_in_shaped sd hu) ⟨.bl _, H, I, rfl, q⟩
  · obtain ⟨bs, r2⟩ := Dp.reads I (.tuple ds) y u he ry
    exact SeqAt.in_tuple_reads r2 r1 (SeqAt.canLay_of_shaped se) (SeqAt.canLay_of_shaped sd) (room_in_shaped sd hu) ⟨.bl _, H, I, rfl, q⟩
theorem op_notInA (hu : X.A.units + 65 < cLine) : OpR X (compareOp .NotIn) (rInA X.K true) := by
  intro pins s σ H x y v u Q I rx ry h
  obtain ⟨d, ds, hd, he, sd, se, q⟩ := h
  obtain ⟨as, r1⟩ := Dp.reads I d x v hd rx
  rcases he with he | he
  · obtain ⟨bs, r2⟩ := Dp.reads I (.list ds) y u he ry
    exact SeqAt.notIn_list_reads r2 r1 (SeqAt.canLay_of_shaped se) (SeqAt.canLay_of_shaped sd) (room_in_shaped sd hu) ⟨.bl _, H, I, rfl, q⟩
  · obtain ⟨bs, r2⟩ := Dp.reads I (.tuple ds) y u he ry
    exact SeqAt.notIn_tuple_reads r2 r1 (SeqAt.canLay_of_shaped se) (SeqAt.canLay_of_shaped sd) (room_in_shaped sd hu) ⟨.bl _, H, I, rfl, q⟩
end
theorem Zv.dpSeq {dr : Option Dr} {K : PySem.W.Frag} {Hs H0 H : Hp} {v : V} {z : Z} {t : Bool} {xs : List D} (B : Bas dr H0 H) (h : Zv dr Hs H0 H v z) (e : z.seq = some (t, xs)) (p : D.plains xs = true) : Dp K H v (.list (D.pys xs)) ∨ Dp K H v (.tuple (D.pys xs)) := by
  obtain ⟨q, vs, e1, hq, da⟩ := h.seq B e
  subst e1
  cases t with
  | false => exact .inl (.lst (.of (hide_some hq).1) ((da.mono B.ex).dp p))
  | true => exact .inr (.tup (.of (hide_some hq).1) ((da.mono B.ex).dp p))
def fIn (neg : Bool) : Z → Z → (Z → Prop) → Prop := fun x y P => ∃ a t xs, x.cont = some a ∧ y.seq = some (t, xs) ∧ a.ok ∧ (D.lst xs).ok ∧ P (.d (.bl (if neg then !(xs.any fun z => PyData.eqv z.py a.py) else xs.any fun z => PyData.eqv z.py a.py)))
theorem os_in {K : PySem.W.Frag} (neg : Bool) : OpS (rInA K neg) (fIn neg) := fun dr Hs Hs' H0 H x y zx zy Q P B hx hy ⟨a, t, xs, ea, eb, oa, ob, p⟩ k => by
  have h1 : D.plains xs = true := by simpa [D.plain] using ob.1
  refine ⟨a.py, D.pys xs, hx.dp B ea oa.1, hy.dpSeq B eb h1, oa.2, by simpa [D.py] using ob.2, ?_⟩
  have e : (D.pys xs).any (fun z => PyData.eqv z a.py) = xs.any fun z => PyData.eqv z.py a.py := by rw [D.pys_eq, List.any_map]; rfl
  rw [e]
  exact k _ _ H0 H B .refl (.d (.bl _)) p
/-- a sign in a text -/
def fInS (neg : Bool) : Z → Z → (Z → Prop) → Prop := fun x y P => ∃ (c : Nat) (z : Str), x = .d (.str ⟨#[c]⟩) ∧ y = .d (.str z) ∧ P (.d (.bl (if neg then !decide (c ∈ z.cps.toList) else decide (c ∈ z.cps.toList))))
/-! ### whole numbers -/
def fI0 (g : Int → Int → D) : Z → Z → (Z → Prop) → Prop := fun x y P => ∃ i j, x = .d (.int i) ∧ y = .d (.int j) ∧ P (.d (g i j))
def fI (C : Int → Int → Prop) (g : Int → Int → D) : Z → Z → (Z → Prop) → Prop := fun x y P => ∃ i j, x = .d (.int i) ∧ y = .d (.int j) ∧ C i j ∧ P (.d (g i j))
theorem os_I0 {gV : Int → Int → V} {g : Int → Int → D} (h : ∀ i j H, Dv H (gV i j) (g i j)) : OpS (rI0 gV) (fI0 g) := fun dr Hs Hs' H0 H x y zx zy Q P B hx hy ⟨i, j, e1, e2, p⟩ k => by
  subst e1 e2
  cases hx with
  | d d1 =>
    cases hy with
    | d d2 => cases d1; cases d2; exact ⟨i, j, rfl, rfl, k _ _ H0 H B .refl (.d (h i j H0)) p⟩
theorem os_I {C : Int → Int → Prop} {gV : Int → Int → V} {g : Int → Int → D} (h : ∀ i j H, Dv H (gV i j) (g i j)) : OpS (rI C gV) (fI C g) := fun dr Hs Hs' H0 H x y zx zy Q P B hx hy ⟨i, j, e1, e2, c, p⟩ k => by
  subst e1 e2
  cases hx with
  | d d1 =>
    cases hy with
    | d d2 => cases d1; cases d2; exact ⟨i, j, rfl, rfl, c, k _ _ H0 H B .refl (.d (h i j H0)) p⟩
/-! ### + -/
def fAdd : Z → Z → (Z → Prop) → Prop
  | .d (.int i), .d (.int j), P => P (.d (.int (i + j)))
  | .d (.str a), .d (.str b), P => a.length + b.length ≤ sizeLine ∧ P (.d (.str (a ++ b)))
  | .d (.tup a), .d (.tup b), P => a.length + b.length ≤ sizeLine ∧ P (.d (.tup (a ++ b)))
  | x, y, P => ∃ xs ys, x.seq = some (false, xs) ∧ y.seq = some (false, ys) ∧ xs.length + ys.length ≤ sizeLine ∧ P (.own (xs ++ ys))
def rAddA (K : PySem.W.Frag) : R2 := fun x y H Q => (rI0 (fun i j => .int (i + j)) x y H Q) ∨ ((∃ i j, x = .str i ∧ y = .str j ∧ i.length + j.length ≤ sizeLine ∧ Q (.str (i ++ j)) H) ∨ (rCat x y H Q ∨ rCatA K x y H Q))
theorem op_addA {X : Cx} : OpR X (binaryOp .Add) (rAddA X.K) := op_add.or (op_add_str.or (op_cat.or op_catA))
theorem os_add_seq {K : PySem.W.Frag} {dr : Option Dr} {Hs Hs' H0 H : Hp} {x y : V} {zx zy : Z} {Q : VK} {P : Z → Prop} {xs ys : List D} (B : Bas dr H0 H) (hx : Zv dr Hs H0 H x zx) (hy : Zv dr Hs' H0 H y zy) (ex : zx.seq = some (false, xs)) (ey : zy.seq = some (false, ys)) (hz : xs.length + ys.length ≤ sizeLine) (p : P (.own (xs ++ ys)))
    (k : ∀ v z H0' H', Bas dr H0' H' → Step dr H0 H H0' H' → Zv dr H H0' H' v z → P z → Q v H') : rAddA K x y H Q := by
  obtain ⟨q1, v1, rfl, h1, d1⟩ := hx.seq B ex
  obtain ⟨q2, v2, rfl, h2, d2⟩ := hy.seq B ey
  refine .inr (.inr (.inl ⟨q1, q2, v1, v2, rfl, rfl, (hide_some h1).1, (hide_some h2).1, by rw [d1.length, d2.length]; exact hz, fun r hr => ?_⟩))
  exact k _ _ H0 _ (B.new hr) (.new hr) (.own upd_same (d1.append d2) (B.ex.free hr) (B.out hr) hr) p
theorem os_add {K : PySem.W.Frag} : OpS (rAddA K) fAdd := fun dr Hs Hs' H0 H x y zx zy Q P B hx hy w k => by
  unfold fAdd at w
  split at w
  · cases hx with
    | d d1 => cases hy with
      | d d2 => cases d1; cases d2; exact .inl ⟨_, _, rfl, rfl, k _ _ H0 H B .refl (.d (.int _)) w⟩
  · cases hx with
    | d d1 => cases hy with
      | d d2 => cases d1; cases d2; exact .inr (.inl ⟨_, _, rfl, rfl, w.1, k _ _ H0 H B .refl (.d (.str _)) w.2⟩)
  · cases hx with
    | d d1 =>
      cases hy with
      | d d2 =>
        cases d1 with
        | @tup q1 v1 _ h1 a1 =>
          cases d2 with
          | @tup q2 v2 _ h2 a2 =>
            refine .inr (.inr (.inr ⟨q1, q2, v1, v2, rfl, rfl, .of (B.ex _ _ h1), .of (B.ex _ _ h2), by rw [a1.length, a2.length]; exact w.1, fun e => ?_, fun e1 e2 => ?_, fun e1 e2 r hr => ?_⟩))
            · subst e
              cases a1
              exact k _ _ H0 H B .refl (.d (.tup h2 a2)) w.2
            · subst e2
              cases a2
              have w2 := w.2
              rw [List.append_nil] at w2
              exact k _ _ H0 H B .refl (.d (.tup h1 a1)) w2
            · exact k _ _ (L2.upd H0 r (.tup (v1 ++ v2))) _ (B.newz hr) (.newz (B.ex.free hr) hr) (.d (.tup upd_same ((a1.append a2).mono (same_upd (B.ex.free hr))))) w.2
  · obtain ⟨xs, ys, ex, ey, hz, p⟩ := w
    exact os_add_seq B hx hy ex ey hz p k
end GL
end
section
set_option linter.all false
set_option maxRecDepth 100000
set_option maxHeartbeats 2000000
namespace GL
open PySem L2 PySem.Calls PyProof.Rows
variable [TabCx] [XCx]
section
variable {X : Cx} {e a b o : Expr} {es : List Expr} {t ta tb : TE} {m ma mb : GM} {pos p : Pos} {tl : TA} {mz : GMA} {md : GMD}
/-! ### items, slices -/
def rIxA (K : PySem.W.Frag) : R2 := fun x y H Q => rIxL K x y H Q ∨ rIxT K x y H Q
theorem ix_A : IxR X (rIxA X.K) := ix_list.or ix_tup
def fIx : Z → Z → (Z → Prop) → Prop := fun x y P => ∃ t xs i d, x.seq = some (t, xs) ∧ y = .d (.int i) ∧ atI xs i = some d ∧ P (.d d)
theorem os_ix {K : PySem.W.Frag} : OpS (rIxA K) fIx := fun dr Hs Hs' H0 H x y zx zy Q P B hx hy ⟨t, xs, i, d, ex, ey, at_, p⟩ k => by
  subst ey
  cases hy with
  | d d2 =>
    cases d2
    obtain ⟨q, vs, rfl, hq, da⟩ := hx.seq B ex
    obtain ⟨j, hj, hd, hlt, _, _⟩ := atI_get at_
    obtain ⟨v, hv, dv⟩ := da.get hd
    have av : atI vs i = some v := by
      unfold atI at at_ ⊢
      rw [da.length]
      cases e : ixN xs.length i with
      | none => rw [e] at at_; cases at_
      | some j' =>
        rw [e] at at_
        have h1 := (ixN_seq e).1
        rw [h1] at hj; cases hj
        exact hv
    cases t with
    | false => exact .inl ⟨q, vs, i, v, rfl, rfl, .of (hide_some hq).1, av, k v _ H0 H B .refl (.d dv) p⟩
    | true => exact .inr ⟨q, vs, i, v, rfl, rfl, .of (hide_some hq).1, av, k v _ H0 H B .refl (.d dv) p⟩
theorem ge_ix (ha : GE X a ta ma) (hb : GE X b tb mb) (hs : PlainIx b) : GE X (.Subscript a b pos) (tOp (rIxA X.K) ta tb) (mOp fIx ma mb) := ⟨pe_ix ix_A ha.pe hb.pe hs, snd_op os_ix ha.sn hb.sn⟩
abbrev GMO := Env → (Option Int → Prop) → Prop
def SndO (K : PySem.W.Frag) (t : TO) (m : GMO) : Prop := ∀ (dr : Option Dr) (Hi : Hp) (σ : L2.St) (ρ : Env) (H0 H : Hp) (Q : Option Int → Hp → Prop) (P : Option Int → Prop), Bas dr H0 H → Rs K dr Hi H0 H σ ρ → m ρ P →
  (∀ b H0' H', Bas dr H0' H' → Step dr H0 H H0' H' → P b → Q b H') → t σ H Q
structure GO (X : Cx) (e : Option Expr) (t : TO) (m : GMO) : Prop where
  po : PO X e t
  sn : SndO X.K t m
def mONone : GMO := fun _ P => P none
def mOSome (m : GM) : GMO := fun ρ P => m ρ fun z => ∃ i, z = .d (.int i) ∧ P (some i)
theorem go_none : GO X none tNoPart mONone := ⟨po_none, fun dr Hi σ ρ H0 H Q P B R w k => k none H0 H B .refl w⟩
theorem go_some (h : GE X e t m) : GO X (some e) (tPart t) (mOSome m) := ⟨po_some h.pe, fun dr Hi σ ρ H0 H Q P B R w k => h.sn dr Hi σ ρ H0 H _ _ B R w fun v z A0 A1 B1 S1 zv ⟨i, ez, q⟩ => by
  subst ez
  cases zv with
  | d d1 => cases d1; exact ⟨i, rfl, k _ A0 A1 B1 S1 q⟩⟩
def cutD (xs : List D) (lo hi : Option Int) : List D := (xs.drop (HT.sIx xs.length 0 lo)).take (HT.sIx xs.length xs.length hi - HT.sIx xs.length 0 lo)
theorem DvAll.cut {H : Hp} {vs : List V} {xs : List D} (h : DvAll H vs xs) (lo hi : Option Int) : DvAll H (cutV vs lo hi) (cutD xs lo hi) := by
  unfold cutV cutD
  rw [h.length]
  exact (h.drop _).take _
def fSl : Z → Option Int → Option Int → (Z → Prop) → Prop
  | .d (.tup xs), lo, hi, P => P (.d (.tup (cutD xs lo hi)))
  | .d (.str x), lo, hi, P => x.length ≤ sizeLine ∧ P (.d (.str (cutS x lo hi)))
  | x, lo, hi, P => ∃ xs, x.seq = some (false, xs) ∧ P (.own (cutD xs lo hi))
def rSlAny (K : PySem.W.Frag) : V → Option Int → Option Int → Hp → VK → Prop := fun x lo hi H Q => rSlL K x lo hi H Q ∨ (rSlA K x lo hi H Q ∨ rSlS x lo hi H Q)
theorem sl_any : SlR X (rSlAny X.K) := sl_list.or (sl_tupA.or sl_str)
theorem whole_cut {xs : List D} {lo hi : Option Int} (h : HT.sIx xs.length 0 lo = 0 ∧ HT.sIx xs.length xs.length hi = xs.length) : cutD xs lo hi = xs := by
  unfold cutD
  rw [h.1, h.2]
  simp
theorem os_sl {K : PySem.W.Frag} {dr : Option Dr} {Hs H0 H : Hp} {v : V} {z : Z} {lo hi : Option Int} {Q : VK} {P : Z → Prop} (B : Bas dr H0 H) (hz : Zv dr Hs H0 H v z) (w : fSl z lo hi P)
    (k : ∀ v z H0' H', Bas dr H0' H' → Step dr H0 H H0' H' → Zv dr H H0' H' v z → P z → Q v H') : rSlAny K v lo hi H Q := by
  unfold fSl at w
  split at w
  · cases hz with
    | d d1 =>
      cases d1 with
      | @tup q vs xs hq da =>
        refine .inr (.inl ⟨q, vs, rfl, .of (B.ex _ _ hq), fun hw => ?_, fun hw r hr => ?_⟩)
        · rw [da.length] at hw
          rw [whole_cut hw] at w
          exact k _ _ H0 H B .refl (.d (.tup hq da)) w
        · exact k _ _ (L2.upd H0 r (.tup (cutV vs lo hi))) _ (B.newz hr) (.newz (B.ex.free hr) hr) (.d (.tup upd_same ((da.cut lo hi).mono (same_upd (B.ex.free hr))))) w
  · cases hz with
    | d d1 => cases d1; exact .inr (.inr ⟨_, rfl, w.1, k _ _ H0 H B .refl (.d (.str _)) w.2⟩)
  · obtain ⟨xs, ex, q⟩ := w
    obtain ⟨p, vs, rfl, hp, da⟩ := hz.seq B ex
    exact .inl ⟨p, vs, rfl, .of (hide_some hp).1, fun r hr => k _ _ H0 _ (B.new hr) (.new hr) (.own upd_same (da.cut lo hi) (B.ex.free hr) (B.out hr) hr) q⟩
def mSl (m : GM) (ml mh : GMO) : GM := fun ρ P => m ρ fun z => ml ρ fun lo => mh ρ fun hi => fSl z lo hi P
theorem ge_sl {lo hi : Option Expr} {tlo thi : TO} {ml mh : GMO} {p2 : Pos} (he : GE X e t m) (hl : GO X lo tlo ml) (hh : GO X hi thi mh) : GE X (.Subscript e (.Slice lo hi none p2) pos) (tSl (rSlAny X.K) t tlo thi) (mSl m ml mh) := ⟨pe_slice sl_any he.pe hl.po hh.po, fun dr Hi σ ρ H0 H Q P B R w k =>
  he.sn dr Hi σ ρ H0 H _ _ B R w fun v z A0 A1 B1 S1 zv w1 => hl.sn dr Hi σ ρ A0 A1 _ _ B1 (R.step S1) w1 fun l C0 C1 B2 S2 w2 => hh.sn dr Hi σ ρ C0 C1 _ _ B2 (R.step (S1.trans S2)) w2 fun h E0 E1 B3 S3 w3 =>
    os_sl B3 (zv.step (S2.trans S3)) w3 fun v z F0 F1 B4 S4 z4 q => k v z F0 F1 B4 (((S1.trans S2).trans S3).trans S4) (z4.from ((S1.trans S2).trans S3)) q⟩
/-- xs[::-1], a list -/
def mRev (m : GM) : GM := fun ρ P => m ρ fun z => ∃ xs, z.seq = some (false, xs) ∧ P (.own xs.reverse)
theorem ge_rev {k : Nat} {p1 p2 p3 : Pos} (he : GE X e t m) : GE X (.Subscript e (.Slice none none (some (.UnaryOp .USub (.Constant (.int 1) k p1) p2)) p3) pos) (tRevL X.K t) (mRev m) := ⟨pe_revL he.pe, fun dr Hi σ ρ H0 H Q P B R w k =>
  he.sn dr Hi σ ρ H0 H _ _ B R w fun v z A0 A1 B1 S1 zv ⟨xs, ex, q⟩ => by
    obtain ⟨p, vs, rfl, hp, da⟩ := zv.seq B1 ex
    exact ⟨p, vs, rfl, .of (hide_some hp).1, fun r hr => k _ _ A0 _ (B1.new hr) (S1.trans (.new hr)) (.own upd_same da.reverse (B1.ex.free hr) (B1.out hr) (S1.free hr (B1.out hr))) q⟩⟩
/-! ### built-ins -/
theorem ZvAll.one {dr : Option Dr} {Hs H0 H : Hp} {xs : List V} {z : Z} (h : ZvAll dr Hs H0 H xs [z]) : ∃ v, xs = [v] ∧ Zv dr Hs H0 H v z := by
  cases h with
  | cons h t => cases t; exact ⟨_, rfl, h⟩
theorem ZvAll.two {dr : Option Dr} {Hs H0 H : Hp} {xs : List V} {y z : Z} (h : ZvAll dr Hs H0 H xs [y, z]) : ∃ v w, xs = [v, w] ∧ Zv dr Hs H0 H v y ∧ Zv dr Hs H0 H w z := by
  cases h with
  | cons h t => obtain ⟨w, e, h2⟩ := t.one; subst e; exact ⟨_, _, rfl, h, h2⟩
/-- len of a list, a tuple, a text -/
def rLenA (K : PySem.W.Frag) : List V → Hp → VK → Prop := fun xs H Q => (∃ p ys, xs = [.ref p] ∧ (SqL K H p ys ∨ SqT K H p ys) ∧ Q (.int ys.length) H) ∨ (∃ z, xs = [.str z] ∧ z.length ≤ sizeLine ∧ Q (.int z.length) H)
theorem cr_lenA : CallR X (.builtin "len") (rLenA X.K) := call_len_seq.or call_len_str
def fLen : List Z → (Z → Prop) → Prop := fun zs P => (∃ z t xs, zs = [z] ∧ z.seq = some (t, xs) ∧ P (.d (.int xs.length))) ∨ (∃ x : Str, zs = [.d (.str x)] ∧ x.length ≤ sizeLine ∧ P (.d (.int x.length)))
theorem cs_len {K : PySem.W.Frag} : CallS (rLenA K) fLen := fun dr Hs H0 H xs zs Q P B h w k => by
  rcases w with ⟨z, t, ys, e, ez, p⟩ | ⟨x, e, hx, p⟩
  · subst e
    obtain ⟨v, rfl, hv⟩ := h.one
    obtain ⟨q, vs, rfl, hq, da⟩ := hv.seq B ez
    refine .inl ⟨q, vs, rfl, ?_, ?_⟩
    · cases t with
      | false => exact .inl (.of (hide_some hq).1)
      | true => exact .inr (.of (hide_some hq).1)
    · rw [da.length]; exact k _ _ H0 H B .refl (.d (.int _)) p
  · subst e
    obtain ⟨v, rfl, hv⟩ := h.one
    cases hv with
    | d d1 => cases d1; exact .inr ⟨x, rfl, hx, k _ _ H0 H B .refl (.d (.int _)) p⟩
/-- list(xs) -/
def rListA (K : PySem.W.Frag) : List V → Hp → VK → Prop := fun xs H Q => ∃ p ys, xs = [.ref p] ∧ (SqL K H p ys ∨ SqT K H p ys) ∧ ∀ l, H l = none → Q (.ref l) (L2.upd H l (.lst ys))
def fList : List Z → (Z → Prop) → Prop := fun zs P => ∃ z t xs, zs = [z] ∧ z.seq = some (t, xs) ∧ P (.own xs)
theorem cs_list {K : PySem.W.Frag} : CallS (rListA K) fList := fun dr Hs H0 H xs zs Q P B h ⟨z, t, ys, e, ez, p⟩ k => by
  subst e
  obtain ⟨v, rfl, hv⟩ := h.one
  obtain ⟨q, vs, rfl, hq, da⟩ := hv.seq B ez
  refine ⟨q, vs, rfl, ?_, fun l hl => k _ _ H0 _ (B.new hl) (.new hl) (.own upd_same da (B.ex.free hl) (B.out hl) hl) p⟩
  cases t with
  | false => exact .inl (.of (hide_some hq).1)
  | true => exact .inr (.of (hide_some hq).1)
/-- tuple(xs), xs a list -/
def rTupA (K : PySem.W.Frag) : List V → Hp → VK → Prop := fun xs H Q => ∃ p ys, xs = [.ref p] ∧ ((SqL K H p ys ∧ ∀ l, H l = none → Q (.ref l) (L2.upd H l (.tup ys))) ∨ (SqT K H p ys ∧ Q (.ref p) H))
def fTup : List Z → (Z → Prop) → Prop := fun zs P => (∃ z xs, zs = [z] ∧ z.seq = some (false, xs) ∧ P (.d (.tup xs))) ∨ ∃ xs, zs = [.d (.tup xs)] ∧ P (.d (.tup xs))
theorem cs_tup {K : PySem.W.Frag} : CallS (rTupA K) fTup := fun dr Hs H0 H xs zs Q P B h w k => by
  rcases w with ⟨z, ys, e, ez, p⟩ | ⟨ys, e, p⟩
  · subst e
    obtain ⟨v, rfl, hv⟩ := h.one
    obtain ⟨q, vs, rfl, hq, da⟩ := hv.seq B ez
    exact ⟨q, vs, rfl, .inl ⟨.of (hide_some hq).1, fun l hl => k _ _ (L2.upd H0 l (.tup vs)) _ (B.newz hl) (.newz (B.ex.free hl) hl) (.d (.tup upd_same (da.mono (same_upd (B.ex.free hl))))) p⟩⟩
  · subst e
    obtain ⟨v, rfl, hv⟩ := h.one
    cases hv with
    | d d1 => cases d1 with
      | @tup q vs _ hq da => exact ⟨q, vs, rfl, .inr ⟨.of (B.ex _ _ hq), k _ _ H0 H B .refl (.d (.tup hq da)) p⟩⟩
/-- all, any of truth values -/
def fAll : List Z → (Z → Prop) → Prop := fun zs P => ∃ (z : Z) (bs : List Bool), zs = [z] ∧ z.seq = some (false, bs.map D.bl) ∧ P (.d (.bl (bs.all id)))
def fAny : List Z → (Z → Prop) → Prop := fun zs P => ∃ (z : Z) (bs : List Bool), zs = [z] ∧ z.seq = some (false, bs.map D.bl) ∧ P (.d (.bl (bs.any id)))
theorem cs_all {K : PySem.W.Frag} : CallS (rAll K) fAll := fun dr Hs H0 H xs zs Q P B h ⟨z, bs, e, ez, p⟩ k => by
  subst e
  obtain ⟨v, rfl, hv⟩ := h.one
  obtain ⟨q, vs, rfl, hq, da⟩ := hv.seq B ez
  have e := da.bls_of
  subst e
  exact ⟨q, bs, rfl, .of (hide_some hq).1, k _ _ H0 H B .refl (.d (.bl _)) p⟩
theorem cs_any {K : PySem.W.Frag} : CallS (rAny K) fAny := fun dr Hs H0 H xs zs Q P B h ⟨z, bs, e, ez, p⟩ k => by
  subst e
  obtain ⟨v, rfl, hv⟩ := h.one
  obtain ⟨q, vs, rfl, hq, da⟩ := hv.seq B ez
  have e := da.bls_of
  subst e
  exact ⟨q, bs, rfl, .of (hide_some hq).1, k _ _ H0 H B .refl (.d (.bl _)) p⟩
/-- min, max of two whole numbers -/
def fMM (mx : Bool) : List Z → (Z → Prop) → Prop := fun zs P => ∃ i j, zs = [.d (.int i), .d (.int j)] ∧ P (.d (.int (if mx then (if j > i then j else i) else if j < i then j else i)))
theorem cs_max2 : CallS (fun xs H Q => ∃ i j, xs = [.int i, .int j] ∧ Q (.int (if j > i then j else i)) H) (fMM true) := fun dr Hs H0 H xs zs Q P B h ⟨i, j, e, p⟩ k => by
  subst e
  obtain ⟨v, w, rfl, h1, h2⟩ := h.two
  cases h1 with
  | d d1 => cases h2 with
    | d d2 => cases d1; cases d2; exact ⟨i, j, rfl, k _ _ H0 H B .refl (.d (.int _)) p⟩
theorem cs_min2 : CallS (fun xs H Q => ∃ i j, xs = [.int i, .int j] ∧ Q (.int (if j < i then j else i)) H) (fMM false) := fun dr Hs H0 H xs zs Q P B h ⟨i, j, e, p⟩ k => by
  subst e
  obtain ⟨v, w, rfl, h1, h2⟩ := h.two
  cases h1 with
  | d d1 => cases h2 with
    | d d2 => cases d1; cases d2; exact ⟨i, j, rfl, k _ _ H0 H B .refl (.d (.int _)) p⟩
/-- repr of a list or a tuple of data, where no repr goes on -/
def rReprD (K : PySem.W.Frag) : List V → Hp → VK → Prop := fun xs H Q => ∃ a d, xs = [.ref a] ∧ Dp K H (.ref a) d ∧ d.showable = true ∧ d.canLay0 = true ∧ d.depth ≤ 60 ∧ d.shown.length ≤ sizeLine ∧ Q (.str d.shown) H
theorem cr_repr (hg : X.A.guards = some []) (hu : X.A.units + 64 < cLine) : CallR X (.builtin "repr") (rReprD X.K) := by
  intro pins s σ H xs us Q I r h
  obtain ⟨a, d, rfl, hd, h1, h2, h3, h4, q⟩ := h
  have e := r.ref1
  subst e
  obtain ⟨as, rd⟩ := Dp.reads I d (.ref a) (.ref a) hd rfl
  exact repr_of_reads' rd h1 (PyData.noDict_hsm (PyData.hasDict_of_canLay d h2)) hg (by omega) (fun _ _ e => e) (fun h' u tk hk => ⟨.str d.shown, H, I.kept hk, ⟨u, rfl⟩, q⟩) h4
/-- a list or a tuple of data that is shown -/
def D.shows (x : D) : Prop := x.plain = true ∧ x.py.showable = true ∧ x.py.canLay0 = true ∧ x.py.depth ≤ 60 ∧ x.py.shown.length ≤ sizeLine
def fRepr : List Z → (Z → Prop) → Prop := fun zs P => ∃ z t xs x, zs = [z] ∧ z.seq = some (t, xs) ∧ z.cont = some x ∧ x.shows ∧ P (.d (.str x.py.shown))
theorem cs_repr {K : PySem.W.Frag} : CallS (rReprD K) fRepr := fun dr Hs H0 H xs zs Q P B h ⟨z, t, ys, x, e, ez, ex, sh, p⟩ k => by
  subst e
  obtain ⟨v, rfl, hv⟩ := h.one
  have dp := hv.dp (K := K) B ex sh.1
  obtain ⟨q, vs, rfl, hq, da⟩ := hv.seq B ez
  exact ⟨q, x.py, rfl, dp, sh.2.1, sh.2.2.1, sh.2.2.2.1, sh.2.2.2.2, k _ _ H0 H B .refl (.d (.str _)) p⟩
/-- sep.join(xs) -/
def mJoin (ma mb : GM) : GM := fun ρ P => ma ρ fun x => ∃ (a : Str), x = .d (.str a) ∧ mb ρ fun y => ∃ (t : Bool) (ys : List Str), y.seq = some (t, ys.map D.str) ∧ (ys.map (·.length)).sum + ys.length * a.length ≤ 16777216 ∧ P (.d (.str (Txt.join a ys)))
theorem ge_join {apos : Pos} (ho : GE X o ta ma) (he : GE X e tb mb) (pe : PE X o ta → PE X e tb → PE X (.Call (.Attribute o "join" apos) [e] [] pos) (tM1 (fun x xs H Q => ∃ a p, ∃ ys : List Str, x = .str a ∧ xs = [.ref p] ∧ (SqL X.K H p (ys.map V.str) ∨ SqT X.K H p (ys.map V.str)) ∧ (ys.map (·.length)).sum + ys.length * a.length ≤ 16777216 ∧ Q (.str (Txt.join a ys)) H) ta tb)) :
    GE X (.Call (.Attribute o "join" apos) [e] [] pos) (tM1 (fun x xs H Q => ∃ a p, ∃ ys : List Str, x = .str a ∧ xs = [.ref p] ∧ (SqL X.K H p (ys.map V.str) ∨ SqT X.K H p (ys.map V.str)) ∧ (ys.map (·.length)).sum + ys.length * a.length ≤ 16777216 ∧ Q (.str (Txt.join a ys)) H) ta tb) (mJoin ma mb) :=
  ⟨pe ho.pe he.pe, fun dr Hi σ ρ H0 H Q P B R w k => ho.sn dr Hi σ ρ H0 H _ _ B R w fun x zx A0 A1 B1 S1 z1 ⟨a, ea, w1⟩ => by
    subst ea
    cases z1 with
    | d d1 =>
      cases d1
      refine ⟨⟨a, rfl⟩, he.sn dr Hi σ ρ A0 A1 _ _ B1 (R.step S1) w1 fun y zy C0 C1 B2 S2 z2 ⟨t, ys, e2, hz, q⟩ => ?_⟩
      obtain ⟨p, vs, rfl, hp, da⟩ := z2.seq B2 e2
      have e := da.strs_of
      subst e
      refine ⟨a, p, ys, rfl, rfl, ?_, hz, k _ _ C0 C1 B2 (S1.trans S2) (.d (.str _)) q⟩
      cases t with
      | false => exact .inl (.of (hide_some hp).1)
      | true => exact .inr (.of (hide_some hp).1)⟩
end
end GL
end
section
set_option linter.all false
set_option maxRecDepth 100000
set_option maxHeartbeats 4000000
namespace GL
open PySem L2 PySem.Calls PyProof.Rows PySem.W
section
variable {prog : Program} {w : World} {A : Around} {E : Value → Shared → Prop} {s : Shared}
/-- the items of a list or a tuple, gathered -/
theorem gather {l : Addr} {o : Obj} {n : Nat} {vs : List Value} {Q : List Value → Shared → Prop} (ho : s.heap.get? l = some o) (hc : o.cls = .type "list" ∨ o.cls = .type "tuple") (hd : o.data = .seq vs.toArray n) (hz : vs.length ≤ sizeLine)
    (h : Q vs { s with heap := (s.heap.push (seqObj "list" #[] 0)).update s.heap.objs.size (Obj.mapSeq (· ++ vs.toArray)) }) : wpAny (model prog w) A (collect (.ref l)) Q E s := by
  unfold collect
  refine wpAny_bind (wpAny_runValue (codeAny_builtin entry_proto_collect' ?_))
  show wpAny _ _ (do again (.builtin "list.__iadd__" ⟨[← newList [], .ref l], []⟩)) _ _ s
  refine wpAny_bind (wpAny_newList (wpAny_pure ⟨Code.quiet_builtin _ (by decide +kernel), codeAny_builtin entry_list_iadd' ?_⟩))
  show wpAny _ _ (Builtin.List.listExtendWith (.ref s.heap.objs.size) (.ref l) (.ref s.heap.objs.size)) _ _ { s with heap := s.heap.push (seqObj "list" #[] 0) }
  unfold Builtin.List.listExtendWith
  have old : (s.heap.push (seqObj "list" #[] 0)).get? l = some o := Heap.get?_push_of_some _ ho
  obtain ⟨T, hT, hor⟩ : ∃ T : String, o.cls = .type T ∧ (T = "list" ∨ T = "tuple") := by
    rcases hc with h | h
    · exact ⟨_, h, .inl rfl⟩
    · exact ⟨_, h, .inr rfl⟩
  refine wpAny_bind (wpAny_typeOf (T := T) ⟨o, old, hT⟩ ?_)
  rw [if_pos (by rcases hor with rfl | rfl <;> simp)]
  refine wpAny_bind (listItems_at old hd ?_)
  refine wpAny_bind (listItems_at (xs := #[]) (n := 0) (Heap.get?_push_size _ rfl) rfl ?_)
  rw [if_neg (by simp)]
  refine wpAny_bind (listUpdate_at (xs := #[]) (n := 0) (Heap.get?_push_size _ rfl) rfl ?_ (Nat.zero_le _) (by show (#[] ++ vs.toArray).size ≤ sizeLine + 1; simp only [Array.size_append, List.size_toArray, List.length_nil]; omega))
  refine wpAny_pure ?_
  show wpAny (model prog w) A (do
      let o ← load s.heap.objs.size
      match o.data with
      | .seq xs _ => pure xs.toList
      | _ => unsupported "internal:collect") Q E { s with heap := (s.heap.push (seqObj "list" #[] 0)).update s.heap.objs.size (Obj.mapSeq (· ++ vs.toArray)) }
  refine wpAny_bind (wpAny_load (get?_update_seq (Heap.get?_push_size _ rfl) _) ?_)
  show wpAny _ _ (pure ((#[] : Array Value) ++ vs.toArray).toList) Q E _
  rw [show ((#[] : Array Value) ++ vs.toArray).toList = vs by simp]
  exact wpAny_pure h
/-- sorted(..) of a list or a tuple is list.sort(..) on a new list of its items -/
theorem sortedA_of {l : Addr} {o : Obj} {n : Nat} {vs : List Value} {kw : List (Str × Value)} {Q : Value → Shared → Prop} (ho : s.heap.get? l = some o) (hc : o.cls = .type "list" ∨ o.cls = .type "tuple") (hd : o.data = .seq vs.toArray n) (hz : vs.length ≤ sizeLine)
    (ha1 : argsOk "sorted" ⟨[.ref l], kw⟩) (ha2 : ∀ x, argsOk "list.sort" ⟨[.ref x], kw⟩)
    (body : ∀ E' : Value → Shared → Prop, wpAny (model prog w) A.in1.in1 (Builtin.«list.sort» ⟨[.ref (s.heap.objs.size + 1)], kw⟩) (fun f s' => f = .done (.ret .none) ∧ Q (.ref (s.heap.objs.size + 1)) s') E' { s with heap := copyHeap s.heap vs }) :
    wpAny (model prog w) A (call (.builtin "sorted") [.ref l] kw) Q E s := by
  refine call_function_entry_kw kind_sorted plain_sorted entry_sorted ha1 ?_
  unfold Builtin.«sorted»
  refine wpAny_bind (m := checkCount "sorted" 1 1 _) (wpAny_pure ?_)
  refine wpAny_bind (gather ho hc hd hz ?_)
  refine wpAny_bind (wpAny_newList ?_ hz)
  have two : ((s.heap.push (seqObj "list" #[] 0)).update s.heap.objs.size (Obj.mapSeq (· ++ vs.toArray))).objs.size = s.heap.objs.size + 1 := by rw [Heap.size_update, size_push']
  show wpAny _ _ _ _ _ { s with heap := copyHeap s.heap vs }
  rw [two]
  refine wpAny_bind (wpAny_holding (wpAny_call_entry_kw slot_list_sort ⟨_, copyHeap_at s.heap vs, rfl⟩ entry_list_sort ?srt (ha2 _)))
  case srt =>
    refine wpAny_mono (body _) ?_ fun _ _ z => z
    rintro f s' ⟨rfl, q⟩
    exact ⟨_, rfl, wpAny_pure ⟨_, rfl, q⟩⟩
variable {β : Type} {R : Value → β → Prop} {enc : β → PyData} {bs : List β} {vs : List Value}
theorem sortedA_data {l : Addr} {o : Obj} {n : Nat} {Q : Value → Shared → Prop} (ho : s.heap.get? l = some o) (hc : o.cls = .type "list" ∨ o.cls = .type "tuple") (hd : o.data = .seq vs.toArray n) (e : EachIs R vs bs) (er : EachIs (fun v b => ∃ as, Reads s.heap v (enc b) as) vs bs)
    (hal : AllAlike (bs.map enc)) (hk : Sortable (bs.map enc)) (hL : bs.length ≤ sizeLine) (hu : ∀ b, b ∈ bs → A.units + 2 + (enc b).depth < cLine)
    (h : ∀ out, EachIs R out (bs.mergeSort (dataLe false enc)) → Q (.ref (s.heap.objs.size + 1)) { s with heap := sortedAll s.heap vs (List.toArray out) }) : wpAny (model prog w) A (call (.builtin "sorted") [.ref l]) Q E s := by
  have hz : vs.length ≤ sizeLine := by rw [e.length]; exact hL
  have er2 : EachIs (fun v b => ∃ as, Reads (sortingHeap (copyHeap s.heap vs) (s.heap.objs.size + 1) vs) v (enc b) as) vs bs := er.mono fun _ _ ⟨as, r⟩ => ⟨as, PyProof.Rows.Reads.keeps (fun _ _ => sorting_copy_old) r⟩
  have can : SortsAt prog w A.in1.in1 { s with heap := sortingHeap (copyHeap s.heap vs) (s.heap.objs.size + 1) vs } (dataKind (sortingHeap (copyHeap s.heap vs) (s.heap.objs.size + 1) vs) (bs.map enc)) vs :=
    SortsAt.data (s := { s with heap := sortingHeap (copyHeap s.heap vs) (s.heap.objs.size + 1) vs }) (each_map (R := fun v d => ∃ as, Reads (sortingHeap (copyHeap s.heap vs) (s.heap.objs.size + 1) vs) v d as) enc er2) hal hk (bound_map hu)
  exact sortedA_of ho hc hd hz (args_sorted1 _) (fun _ => args_list_sort _) fun _ => list_sort_vals (s := { s with heap := copyHeap s.heap vs }) (copyHeap_at s.heap vs) can hz ⟨rfl, h _ (sortVals_data false e er2 hal)⟩
theorem sortedA_key {l : Addr} {o : Obj} {n : Nat} {f : Addr} {Q : Value → Shared → Prop} (k : β → PyData) (ho : s.heap.get? l = some o) (hc : o.cls = .type "list" ∨ o.cls = .type "tuple") (hd : o.data = .seq vs.toArray n) (e : EachIs R vs bs)
    (hal : AllAlike (bs.map k)) (hk : Sortable (bs.map k)) (hL : bs.length ≤ sizeLine) (hu : ∀ x, x ∈ bs → A.units + 2 + (k x).depth < cLine)
    (turn : ∀ (v : Value) (x : β), R v x → x ∈ bs → ∀ (h : Heap) (tk : Nat), (∀ b o, s.heap.get? b = some o → h.get? b = some o) → wpAny (model prog w) A.in1.in1 (call (.ref f) [v]) (KeyPure (k x) { s with heap := h, toks := tk }) (fun _ _ => False) { s with heap := h, toks := tk })
    (h : ∀ out c h' tk, (∀ b o, s.heap.get? b = some o → h'.get? b = some o) → s.heap.get? (s.heap.objs.size + 1) = none → h'.get? (s.heap.objs.size + 1) = some (seqObj "list" (List.toArray out) c) → EachIs R out (bs.mergeSort (dataLe false k)) →
      Q (.ref (s.heap.objs.size + 1)) { s with heap := h', toks := tk }) : wpAny (model prog w) A (call (.builtin "sorted") [.ref l] [(Str.ofString "key", .ref f)]) Q E s := by
  have hz : vs.length ≤ sizeLine := by rw [e.length]; exact hL
  have free : s.heap.get? (s.heap.objs.size + 1) = none := Heap.get?_none_of_le (Nat.le_succ _)
  have back : ∀ {g : Heap}, KeepsBut (s.heap.objs.size + 1) (copyHeap s.heap vs) g → ∀ b o, s.heap.get? b = some o → g.get? b = some o := fun {g} kp b o q => kp b o (Nat.ne_of_lt (Nat.lt_succ_of_lt (Heap.lt_size q))) (copyHeap_old q)
  refine sortedA_of ho hc hd hz (ksk_s1 _ _) (fun _ => ksk_l1 _ _) fun E' => ?_
  rw [ksk_t1]
  refine keyH_tree (kz := bs.map k) (s := { s with heap := copyHeap s.heap vs }) (copyHeap_at s.heap vs) (by rw [List.length_map]; exact e.length.symm) hz hal hk (bound_map (A := A.in1.in1) hu)
    (keyH_turns (s := { s with heap := copyHeap s.heap vs }) e fun v x hR hx g tk kp => turn v x hR hx g tk (back kp)) fun h' tk out c kp hD ko => ⟨rfl, h out c h' tk (back kp) free hD (keyedOut_each k ko e)⟩
end
/-! ### over the layer -/
variable [TabCx] [XCx]
section
variable {X : Cx}
theorem vals_each {α : Type} {f : α → V} : ∀ {bs : List α} {us : List Value}, Vals (bs.map f) us → EachIs (fun v b => RelV (f b) v) us bs
  | [], _, .nil => .nil
  | _ :: _, _, .cons r t => .cons r (vals_each t)
theorem each_vals {α : Type} {f : α → V} : ∀ {bs : List α} {us : List Value}, EachIs (fun v b => RelV (f b) v) us bs → Vals (bs.map f) us
  | _, _, .nil => .nil
  | _, _, .cons r t => .cons r (each_vals t)
theorem each_all {α : Type} {R : Value → α → Prop} {S : Value → α → Prop} : ∀ {bs : List α} {us : List Value}, EachIs R us bs → (∀ v b, R v b → b ∈ bs → S v b) → EachIs S us bs
  | _, _, .nil, _ => .nil
  | _, _, .cons r t, h => .cons (h _ _ r List.mem_cons_self) (each_all t fun v b q m => h v b q (List.mem_cons_of_mem _ m))
/-- sorted(xs), xs a list or a tuple of data -/
def rSortedD (K : PySem.W.Frag) : List V → Hp → VK → Prop := fun vs H Q => ∃ (a : Addr) (bs : List (V × D)), vs = [.ref a] ∧ (H a = some (.lst (bs.map (·.1))) ∨ H a = some (.tup (bs.map (·.1)))) ∧ (∀ b ∈ bs, Dp K H b.1 b.2.py) ∧
  AllAlike (bs.map fun b => b.2.py) ∧ Sortable (bs.map fun b => b.2.py) ∧ (∀ b ∈ bs, b.2.py.depth ≤ 60) ∧ ∀ p, H p = none → Q (.ref p) (L2.upd H p (.lst ((bs.mergeSort (dataLe false fun b => b.2.py)).map (·.1))))
theorem seq_obj {pins : List (Addr × Obj)} {s : Shared} {σ : L2.St} {H : Hp} {a : Addr} {xs : List V} (I : Inv X pins σ H s) (h : H a = some (.lst xs) ∨ H a = some (.tup xs)) :
    ∃ (o : Obj) (n : Nat) (its : List Value), s.heap.get? a = some o ∧ (o.cls = .type "list" ∨ o.cls = .type "tuple") ∧ o.data = .seq its.toArray n ∧ Vals xs its ∧ xs.length ≤ sizeLine := by
  rcases h with h | h
  · obtain ⟨hz, its, n, rv, e⟩ := I.hok a _ h
    exact ⟨_, n, its, e, .inl rfl, rfl, rv, hz⟩
  · obtain ⟨hz, its, rv, o, e, c, n, d⟩ := I.hok a _ h
    exact ⟨o, n, its, e, .inr c, d, rv, hz⟩
theorem cr_sortedD (hu : X.A.units + 64 < cLine) : CallR X (.builtin "sorted") (rSortedD X.K) := by
  intro pins s σ H xs us Q I r h
  obtain ⟨a, bs, rfl, hs, hd, hal, hk, hdp, q⟩ := h
  have e := r.ref1
  subst e
  obtain ⟨o, n, its, ho, hc, hda, rv, hz⟩ := seq_obj I hs
  have hL : bs.length ≤ sizeLine := by simpa using hz
  have e0 := vals_each rv
  refine sortedA_data (enc := fun b : V × D => b.2.py) ho hc hda e0 (each_all e0 fun v b rb hb => Dp.reads I _ b.1 v (hd b hb) rb) hal hk hL (fun b hb => by have := hdp b hb; omega) fun out eo => ?_
  obtain ⟨ep, he⟩ := sortedAll_at s.heap its out.toArray
  have rv2 := each_vals eo
  refine ⟨.ref _, L2.upd H (s.heap.objs.size + 1) (.lst ((bs.mergeSort (dataLe false fun b => b.2.py)).map (·.1))), I.laid (t' := s.toks) (fun _ _ => sortedAll_old) (Nat.le_succ _) ⟨?_, out, ep, rv2, he⟩, rfl, q _ (I.hok.fresh (Nat.le_succ _))⟩
  rw [List.length_map, List.length_mergeSort]
  exact hL
/-- the lambda «lambda row: (len(row), row)» at f -/
theorem lam_turn {prog : Program} {w : World} {A : Around} {s : Shared} {f c' L0 : Addr} {q : Str} {scope : Scope} {pm ctv v : Value} {mg mb : Str → Option Value} {oc : Obj} {ovs : Array Value} {tq : Tok} {p1 p2 p3 p4 p5 pa : Pos} {kx : _} {h : Heap} {tk : Nat} {its : Array Value} {ds : List PyData}
    (hkind : scope.kind = .function) (hco : scope.isCoroutine = false) (hgen : scope.isGenerator = false) (hrow : scope.names.lookup ("row" : Str) = some .local) (hlen : scope.names.lookup ("len" : Str) = some .globalImplicit) (hcell : ∀ x ∈ scope.names, x.2 ≠ .cell) (room : A.depth < recursionLimit) (lim : h.NoLimit)
    (hf : h.get? f = some (kla_obj "<lambda>" q { posonlyargs := [], args := [{ arg := "row", annotation := none, pos := pa }], vararg := none, kwonlyargs := [], kw_defaults := [], kwarg := none, defaults := [] } (.Tuple [.Call (.Name "len" p1) [.Name "row" p2] [] p3, .Name "row" p4] kx p5) scope [] pm c' ctv))
    (hcode : h.get? c' = some oc) (hcd : oc.data = .fields ovs) (hcv : ovs[1]? = some (.str q tq)) (glob : h.Ns mainGlobals mg) (bl : h.Ns builtinsNs mb) (hl : mg "len" = none) (hbl : mb "len" = some (.builtin "len"))
    (hv : v = .ref L0) (hot : IsTup h L0 its) (hz : its.size ≤ sizeLine) (rd : Reads h (.ref L0) (.tuple ds) []) :
    wpAny (model prog w) A (call (.ref f) [v]) (KeyPure (.tuple [.int its.size, .tuple ds]) { s with heap := h, toks := tk }) (fun _ _ => False) { s with heap := h, toks := tk } := by
  subst hv
  refine wpAny_call (kla_callFunE room hf rfl hco hgen rfl ⟨c', oc, ovs, tq, rfl, hcode, hcd, hcv⟩ ?_)
  rw [show bindArgs (kla_fn "<lambda>" q { posonlyargs := [], args := [{ arg := "row", annotation := none, pos := pa }], vararg := none, kwonlyargs := [], kw_defaults := [], kwarg := none, defaults := [] } (.Tuple [.Call (.Name "len" p1) [.Name "row" p2] [] p3, .Name "row" p4] kx p5) scope [] pm (.ref c') ctv) ⟨[.ref L0], []⟩ = pure [(("row" : Str), Value.ref L0)] from rfl]
  refine wpAny_pure (wpAny_newFunctionEnv hcell (fun y hy => by
    rw [List.mem_singleton] at hy
    subst hy
    exact hrow) (fun h₁ hns hsb => ⟨lim.fresh _ hsb, ?_⟩) hkind)
  show codeAny _ _ (.expr (.Tuple [.Call (.Name "len" p1) [.Name "row" p2] [] p3, .Name "row" p4] kx p5) (PySem.W.envX q scope h.objs.size f (.ref c') [])) _ _
  have kp : ∀ b o, h.get? b = some o → h₁.get? b = some o := fun b o e => hsb.extBut b o (Nat.ne_of_lt (Heap.lt_size e)) (Heap.get?_push_of_some _ e)
  refine PySem.W.kla_codeExpr ?_
  have hrow1 : ∀ {Q : Value → Shared → Prop} {E : Value → Shared → Prop} {A : Around} {p : Pos} {t : Nat}, Q (.ref L0) { s with heap := h₁, toks := t } → wpAny (model prog w) A (eval (.Name "row" p) (PySem.W.envX q scope h.objs.size f (.ref c') [])) Q E { s with heap := h₁, toks := t } := fun {Q E A p t} hq =>
    wpAny_Name (wpAny_loadName_local (env := PySem.W.envX q scope h.objs.size f (.ref c') []) hkind hrow hns rfl hq)
  have hit : IsTup h₁ L0 its := by
    obtain ⟨o, ho, hc, n, hd⟩ := hot
    exact ⟨o, kp _ _ ho, hc, n, hd⟩
  refine wpAny_Tuple_spliced (spliced_cons ?_)
  refine wpAny_Call_Name_kw (Name_function_global (env := PySem.W.envX q scope h.objs.size f (.ref c') []) hkind hlen (loadGlobal_builtin (env := PySem.W.envX q scope h.objs.size f (.ref c') []) (glob.keeps kp) hl (bl.keeps kp) hbl ?_))
  refine PyProof.Rows.callWith_builtin1 (spliced_cons (hrow1 (spliced_nil ?_)))
  refine PyProof.Rows.len_tuple hit (by have : sizeLine = 16777216 := rfl; omega) ?_
  refine spliced_cons (hrow1 (spliced_nil ⟨by show 2 ≤ sizeLine; decide, ?_⟩))
  have kk : ∀ b o, h.get? b = some o → (h₁.push { cls := .type "tuple", data := .seq #[.int its.size (tk + 1 + 1), .ref L0] }).get? b = some o := fun b o e => Heap.get?_push_of_some _ (kp b o e)
  exact ⟨_, _, rfl, fun b o e => Heap.get?_push_of_some _ (kp b o e), Reads.tuple (as := [] ++ ([] ++ [])) (Heap.get?_push_size _ rfl) rfl rfl (.cons (.int _ _) (.cons (PyProof.Rows.Reads.keeps (fun b o e => Heap.get?_push_of_some _ (kp b o e)) rd) .nil))⟩
end
end GL
end
section
set_option linter.all false
set_option maxRecDepth 100000
set_option maxHeartbeats 4000000
namespace GL
open PySem L2 PySem.Calls PyProof.Rows PySem.W
variable [TabCx] [XCx]
section
variable {X : Cx} {pins : List (Addr × Obj)} {σ : L2.St} {H : Hp} {s : Shared}
/-- a lambda is made: H1 has the table at P written, and a code object more, or nothing new -/
theorem lam_new {c P : Addr} {q : Str} {params : Arguments} {body : Expr} {scope : Scope} {pos : Pos} {E : Value → Shared → Prop} {Q : Value → Shared → Prop} (I : Inv X pins σ H s) (TB : LamX.TabB X.base X.mg c P) (hcode : X.env.code = .ref c) (hq : q = X.env.qual ++ "<lambda>")
    (tab : LamX.TabS H P q) (hdef : defaultsOf params X.env = ([], [])) (free : ∀ y ∈ scope.names, y.2 = .free → ∃ c, X.env.cells.lookup y.1 = some c)
    (h : ∀ (f c' : Addr) (pm ctv : Value) (H1 : Hp) (s' : Shared), Inv X pins σ H1 s' → (∀ b o, b ≠ P → H b = some o → H1 b = some o) → (∀ t : Addr × Str, (t.1 = P → t.2 = q) → LamX.TabS H t.1 t.2 → LamX.TabS H1 t.1 t.2) →
      s'.heap.get? f = some (kla_obj "<lambda>" q params body scope (cloFrom X.env.cells scope.names []) pm c' ctv) → (∃ (oc : Obj) (ovs : Array Value) (tq : Tok), s'.heap.get? c' = some oc ∧ oc.data = .fields ovs ∧ ovs[1]? = some (.str q tq)) → Q (.ref f) s') :
    wpAny (model X.prog X.w) X.A (eval (.Lambda params body scope pos) X.env) Q E s := by
  subst hq
  obtain ⟨ps, hP, triples, found⟩ := tab
  refine kla_eval hdef ?_
  have builtins_ : s.heap.BuiltinsAt X.mg P := TB.bm.keeps I.bk
  have table : s.heap.get? P = some { cls := .none, data := .fields ps } := I.hok P _ hP
  cases among : codeAmong pos ps.toList with
  | some cv =>
    obtain ⟨c', rfl, code⟩ := found pos cv among
    refine kla_makeFunctionHit (mg := X.mg) (c := c) (P := P) (ps := ps) (closure_ok free) I.ok.glob (I.mod.glob.keeps I.bk) hcode (TB.code.keeps I.bk) table triples among builtins_ fun ctv h' tk keep _ => ?_
    obtain ⟨⟨oc, ovs, tq, g1, g2, g3⟩, _, _⟩ := I.hok c' _ code
    exact h h'.objs.size c' _ ctv H _ (I.kept fun b o e => Heap.get?_push_of_some _ (keep b o e)) (fun _ _ _ e => e) (fun _ _ t => t) (Heap.get?_push_size _ rfl) ⟨oc, ovs, tq, Heap.get?_push_of_some _ (keep _ _ g1), g2, g3⟩
  | none =>
    refine kla_makeFunction (mg := X.mg) (c := c) (P := P) (ps := ps) (closure_ok free) I.ok.glob (I.mod.glob.keeps I.bk) hcode (TB.code.keeps I.bk) table triples among TB.gP builtins_ fun c' ctv h' tk ext above below record written => ?_
    obtain ⟨c2, oc, ovs, tq, e2, g1, g2, g3⟩ := record
    obtain rfl : c' = c2 := by injection e2
    have newC : H c' = none := I.hok.fresh above
    have PC : P ≠ c' := by rintro rfl; rw [hP] at newC; cases newC
    generalize hH1 : upd (upd H P (.tbl (ps ++ #[rawInt pos.line, rawInt pos.col, .ref c']))) c' (LamX.CodeO c' (X.env.qual ++ "<lambda>")) = H1
    have other : ∀ b o, b ≠ P → H b = some o → H1 b = some o := by
      intro b o ne e
      rw [← hH1, upd_ne (ne_of_none e newC), upd_ne ne]
      exact e
    have codes : ∀ (b : Addr) (q' : Str), H b = some (LamX.CodeO b q') → H1 b = some (LamX.CodeO b q') := fun b q' e => other b _ (by
      rintro rfl
      rw [hP] at e
      exact absurd (Option.some.inj e).symm (LamX.codeO_ne ps)) e
    have tabs : ∀ t : Addr × Str, (t.1 = P → t.2 = X.env.qual ++ "<lambda>") → LamX.TabS H t.1 t.2 → LamX.TabS H1 t.1 t.2 := by
      rintro ⟨P2, q2⟩ same ⟨ps2, a1, a2, a3⟩
      by_cases e : P2 = P
      · subst e
        obtain rfl : q2 = X.env.qual ++ "<lambda>" := same rfl
        have e2 : (ps ++ #[rawInt pos.line, rawInt pos.col, .ref c']).toList = ps.toList ++ [rawInt pos.line, rawInt pos.col, .ref c'] := by simp
        refine ⟨ps ++ #[rawInt pos.line, rawInt pos.col, .ref c'], by rw [← hH1, upd_ne PC, upd_same], by rw [e2]; exact PySem.TriplesOk_snoc _ _ _ _ triples, fun p2 cv hc => ?_⟩
        rw [e2] at hc
        rcases LamX.among_app _ triples hc with z | z
        · obtain ⟨c0, z1, z2⟩ := found p2 cv z
          exact ⟨c0, z1, codes _ _ z2⟩
        · exact ⟨c', z, by rw [← hH1]; exact upd_same⟩
      · refine ⟨ps2, other _ _ e a1, a2, fun p2 cv hc => ?_⟩
        obtain ⟨c0, z1, z2⟩ := a3 p2 cv hc
        exact ⟨c0, z1, codes _ _ z2⟩
    have J := LamX.inv_table (t' := tk) (more := #[rawInt pos.line, rawInt pos.col, .ref c']) (h' := h'.push (kla_obj "<lambda>" (X.env.qual ++ "<lambda>") params body scope (cloFrom X.env.cells scope.names []) ((X.mg "__name__").getD .none) c' ctv)) I hP
      (fun b o ne e => Heap.get?_push_of_some _ (ext b o ne e)) (Heap.get?_push_of_some _ written) above ⟨oc, ovs, tq, Heap.get?_push_of_some _ g1, g2, g3⟩
    rw [hH1] at J
    exact h h'.objs.size c' _ ctv H1 _ J other tabs (Heap.get?_push_size _ rfl) ⟨oc, ovs, tq, Heap.get?_push_of_some _ g1, g2, g3⟩
/-! ### sorted(e, key=lambda row: (len(row), row)), rows being tuples of texts -/
/-- what that lambda answers for a tuple of the texts ys -/
def keyLR (ys : List Str) : PyData := .tuple [.int ys.length, .tuple (ys.map .str)]
theorem alike_strs : ∀ xs ys : List Str, alikeAll (xs.map .str) (ys.map .str) = true
  | [], _ => by cases ‹List Str› <;> simp [alikeAll]
  | x :: xs, [] => by simp [alikeAll]
  | x :: xs, y :: ys => by simp [alikeAll, alike, alike_strs xs ys]
theorem depthAll_strs : ∀ xs : List Str, PyData.depthAll (xs.map .str) ≤ 1
  | [] => by simp [PyData.depthAll]
  | x :: xs => by simp [PyData.depthAll, PyData.depth, depthAll_strs xs]
theorem keyLR_depth (ys : List Str) : (keyLR ys).depth ≤ 60 := by
  have := depthAll_strs ys
  simp [keyLR, PyData.depth, PyData.depthAll]
  omega
theorem keyLR_alike (yss : List (List Str)) : AllAlike (yss.map keyLR) := by
  intro d hd d' hd'
  obtain ⟨x, _, rfl⟩ := List.mem_map.mp hd
  obtain ⟨y, _, rfl⟩ := List.mem_map.mp hd'
  simp [keyLR, alike, alikeAll, alike_strs]
theorem reads_strs {h : Heap} : ∀ {ys : List Str} {us : List Value}, Vals (ys.map V.str) us → ReadsAll h us (ys.map .str) []
  | [], _, .nil => .nil
  | y :: ys, _, .cons r t => by
    obtain ⟨k, rfl⟩ := r
    exact ReadsAll.cons (as := []) (bs := []) (.str _ _) (reads_strs t)
/-- one lambda, made by the def whose code object is at c -/
structure Tab1 (X : Cx) (c P : Addr) (q : Str) : Prop where
  tb : LamX.TabB X.base X.mg c P
  code : X.env.code = .ref c
  q : q = X.env.qual ++ "<lambda>"
abbrev sortLR {α : Type} (f : α → List Str) (bs : List α) : List α := bs.mergeSort (dataLe false fun b => keyLR (f b))
def tSortLR (K : PySem.W.Frag) (P : Addr) (q : Str) (te : TE) : TE := fun σ H Q => te σ H fun x H1 => ∃ (a : Addr) (bs : List (V × List Str)), x = .ref a ∧ (H1 a = some (.lst (bs.map (·.1))) ∨ H1 a = some (.tup (bs.map (·.1)))) ∧
  (∀ b ∈ bs, ∃ p, b.1 = .ref p ∧ H1 p = some (.tup (b.2.map V.str))) ∧ LamX.TabS H1 P q ∧
  ∀ H2 : Hp, (∀ b o, b ≠ P → H1 b = some o → H2 b = some o) → (∀ t : Addr × Str, (t.1 = P → t.2 = q) → LamX.TabS H1 t.1 t.2 → LamX.TabS H2 t.1 t.2) → ∀ p, H2 p = none → Q (.ref p) (upd H2 p (.lst ((sortLR (·.2) bs).map (·.1))))
theorem pe_sortLR {c P : Addr} {q : Str} {e : Expr} {te : TE} {p p1 p2 p3 p4 p5 p6 pa pos : Pos} {kx : Nat} {scope : Scope} (T1 : Tab1 X c P q) (hu : X.A.units + 64 < cLine) (hdp : X.A.depth < recursionLimit) (hg : Gl X "sorted") (hm : X.mg "sorted" = none) (hm2 : X.mg "len" = none) (he : PE X e te)
    (hkind : scope.kind = .function := by rfl) (hco : scope.isCoroutine = false := by rfl) (hgen : scope.isGenerator = false := by rfl) (hrow : scope.names.lookup ("row" : Str) = some .local := by rfl) (hlen : scope.names.lookup ("len" : Str) = some .globalImplicit := by rfl) (hcell : ∀ x ∈ scope.names, x.2 ≠ .cell := by decide) (hfree : ∀ y ∈ scope.names, y.2 ≠ .free := by decide)
    (hclo : cloFrom X.env.cells scope.names [] = [] := by rfl) (na : backTo pos (starEach [e] X.env) = (false, eval e X.env) :: backTo pos (starEach [] X.env) := by rfl) (na2 : (backTo pos (starEach [e] X.env)).any (·.1) = false := by rfl) (na3 : starEach [e] X.env = (false, eval e X.env) :: starEach [] X.env := by rfl) {lp kp : Pos} :
    PE X (.Call (.Name "sorted" p) [e] [⟨some "key", .Lambda { posonlyargs := [], args := [{ arg := "row", annotation := none, pos := pa }], vararg := none, kwonlyargs := [], kw_defaults := [], kwarg := none, defaults := [] } (.Tuple [.Call (.Name "len" p1) [.Name "row" p2] [] p3, .Name "row" p4] kx p5) scope lp, kp⟩] pos) (tSortLR X.K P q te) := by
  refine ⟨fun pins s σ H Q I h => wpAny_Call_Name_kw (ld_blt I hg hm PyProof.Rows.boot_sorted ?_)⟩
  refine PyProof.Rows.callWith_kw (PyProof.Rows.args_cons (thn (he.run pins s σ H _ I h) fun v s1 ⟨x, H1, I1, r1, w1⟩ => PyProof.Rows.args_nil ?_) na3) na na2 rfl rfl
  obtain ⟨a, bs, rfl, hs, hd, tab, w2⟩ := w1
  cases r1
  refine wpAny_evalAll_cons (wpAny_bind (lam_new I1 T1.tb T1.code T1.q tab rfl (fun y hy e => absurd e (hfree y hy)) fun f c' pm ctv H2 s2 I2 ext tabs hf ⟨oc, ovs, tq, g1, g2, g3⟩ => wpAny_bind (wpAny_standAt (wpAny_pure (wpAny_evalAll_nil ?_)))))
  rw [hclo] at hf
  show wpAny _ _ (call (.builtin "sorted") [.ref a] [(Str.ofString "key", .ref f)]) _ _ _
  obtain ⟨ps, hP, _⟩ := tab
  have kept : ∀ {b o}, H1 b = some o → (∀ q, o ≠ .tbl q) → H2 b = some o := fun {b o} e ne => ext b o (by
    rintro rfl
    rw [hP] at e
    exact ne ps (Option.some.inj e).symm) e
  have hs2 : H2 a = some (.lst (bs.map (·.1))) ∨ H2 a = some (.tup (bs.map (·.1))) := hs.imp (fun z => kept z fun _ => nofun) (fun z => kept z fun _ => nofun)
  obtain ⟨o, n, its, ho, hc, hda, rv, hz⟩ := seq_obj I2 hs2
  have hL : bs.length ≤ sizeLine := by simpa using hz
  obtain ⟨mb, nb, mbb⟩ := I2.mod.blt
  refine sortedA_key (k := fun b : V × List Str => keyLR b.2) ho hc hda (vals_each rv) (by have z := keyLR_alike (bs.map (·.2)); rwa [List.map_map] at z) (.inl fun d hd => ?_) hL (fun b hb => by have := keyLR_depth b.2; omega) (fun v b rb hb h tk kp => ?_) fun out cc h' tk kp free at_ eo => ?_
  · obtain ⟨b, _, rfl⟩ := List.mem_map.mp hd
    exact ⟨_, _, rfl⟩
  · obtain ⟨p0, e0, t0⟩ := hd b hb
    rw [e0] at rb
    have ev : v = .ref p0 := by cases rb; rfl
    obtain ⟨hz0, its0, rv0, o0, k1, k2, n0, k3⟩ := I2.hok p0 _ (kept t0 fun _ => nofun)
    have l0 : its0.toArray.size = b.2.length := by rw [List.size_toArray, ← rv0.length, List.length_map]
    have := lam_turn (prog := X.prog) (w := X.w) (A := X.A.in1.in1) (s := s2) (h := h) (tk := tk) (ds := b.2.map .str) (its := its0.toArray) hkind hco hgen hrow hlen hcell hdp (I2.mod.nolimit.keeps fun b o e => kp _ _ (I2.bk b o e)) (kp _ _ hf) (kp _ _ g1) g2 g3
      (I2.mod.glob.keeps fun b o e => kp _ _ (I2.bk b o e)) (nb.keeps fun b o e => kp _ _ (I2.bk b o e)) hm2 ((mbb _ (by decide)).trans PySem.boot_len) ev ⟨o0, kp _ _ k1, k2, n0, k3⟩ (by rw [l0]; simpa using hz0) (Reads.tuple (kp _ _ k1) k2 k3 (by simpa using reads_strs rv0))
    rw [l0] at this
    exact this
  · have rv2 := each_vals eo
    refine ⟨.ref _, upd H2 (s2.heap.objs.size + 1) (.lst ((sortLR (·.2) bs).map (·.1))), I2.laid (t' := tk) kp (Nat.le_succ _) ⟨?_, out, cc, rv2, at_⟩, rfl, w2 H2 ext tabs _ (I2.hok.fresh (Nat.le_succ _))⟩
    rw [List.length_map, List.length_mergeSort]
    exact hL
/-- a tuple of texts -/
abbrev tupS (ys : List Str) : D := .tup (ys.map .str)
def mSortLR (m : GM) : GM := fun ρ P => m ρ fun z => ∃ t, ∃ yss : List (List Str), z.seq = some (t, yss.map tupS) ∧ P (.own ((sortLR id yss).map tupS))
theorem tups_of {H : Hp} : ∀ {yss : List (List Str)} {vs : List V}, DvAll H vs (yss.map tupS) → ∃ bs : List (V × List Str), vs = bs.map (·.1) ∧ bs.map (·.2) = yss ∧ ∀ b ∈ bs, ∃ p, b.1 = .ref p ∧ H p = some (.tup (b.2.map V.str))
  | [], _, h => by cases h; exact ⟨[], rfl, rfl, fun _ h => nomatch h⟩
  | ys :: r, _, h => by
    cases h with
    | cons d t =>
      obtain ⟨bs, e1, e2, e3⟩ := tups_of t
      cases d with
      | @tup b us _ hb db =>
        have e := db.strs_of
        subst e e1
        refine ⟨(.ref b, ys) :: bs, rfl, by rw [List.map_cons, e2], fun q hq => ?_⟩
        rcases List.mem_cons.mp hq with rfl | hq
        · exact ⟨b, rfl, hb⟩
        · exact e3 q hq
theorem tups_mk {H : Hp} : ∀ {bs : List (V × List Str)}, (∀ b ∈ bs, ∃ p, b.1 = .ref p ∧ H p = some (.tup (b.2.map V.str))) → DvAll H (bs.map (·.1)) ((bs.map (·.2)).map tupS)
  | [], _ => .nil
  | b :: r, h => by
    obtain ⟨p, e, hp⟩ := h b List.mem_cons_self
    refine .cons ?_ (tups_mk fun c hc => h c (List.mem_cons_of_mem _ hc))
    show Dv H b.1 (tupS b.2)
    rw [e]
    exact .tup hp DvAll.strs
theorem map_sortLR {α : Type} (f : α → List Str) (bs : List α) : (sortLR f bs).map f = sortLR id (bs.map f) := by
  unfold sortLR
  exact List.map_mergeSort fun a _ b _ => rfl
/-- the heap behind a lambda's making -/
theorem bas_ext {dr : Option Dr} {A0 A1 H2 : Hp} {P : Addr} {q : Str} (B : Bas dr A0 A1) (hm : (P, q) ∈ TabCx.ts) (hu : ∀ t ∈ TabCx.ts, t.1 = P → t.2 = q) (ext : ∀ b o, b ≠ P → A1 b = some o → H2 b = some o) (tabs : ∀ t : Addr × Str, (t.1 = P → t.2 = q) → LamX.TabS A1 t.1 t.2 → LamX.TabS H2 t.1 t.2) :
    Bas dr A0 H2 ∧ Step dr A0 A1 A0 H2 := by
  have outP : ∀ {a}, Out dr a → a ≠ P := fun o e => o.2 _ hm e
  obtain ⟨ps, tP, _⟩ := B.tb _ hm
  refine ⟨⟨fun a o e => ext a o (outP (B.fr a o e)) (B.ex a o e), fun x e => ?_, fun t ht => tabs t (hu t ht) (B.tb t ht), B.fr⟩, Same.refl _, fun a o e => ext a o (outP (hide_some e).2) (hide_some e).1, fun _ _ _ h => .inl h⟩
  obtain ⟨rest, turn, gs, h1, h2, h3⟩ := B.dw x e
  have nP : ∀ {a o}, A1 a = some o → (∀ q, o ≠ .tbl q) → a ≠ P := fun {a o} e ne z => by
    rw [z] at e
    rw [show A1 P = _ from tP] at e
    exact ne ps (Option.some.inj e).symm
  exact ⟨rest, turn, gs, ext _ _ (nP h1 fun _ => nofun) h1, ext _ _ (nP h2 fun _ => nofun) h2, ext _ _ (nP h3 fun _ => nofun) h3⟩
theorem snd_sortLR {K : PySem.W.Frag} {P : Addr} {q : Str} {te : TE} {m : GM} (hm : (P, q) ∈ TabCx.ts) (hu : ∀ t ∈ TabCx.ts, t.1 = P → t.2 = q) (he : SndE K te m) : SndE K (tSortLR K P q te) (mSortLR m) := fun dr Hi σ ρ H0 H Q Pz B R w k =>
  he dr Hi σ ρ H0 H _ _ B R w fun v z A0 A1 B1 S1 zv ⟨t, yss, ez, w1⟩ => by
    obtain ⟨a, vs, rfl, hl, da⟩ := zv.seq B1 ez
    have hl' := (hide_some hl).1
    obtain ⟨bs, e1, e2, e3⟩ := tups_of da
    subst e1
    refine ⟨a, bs, rfl, ?_, fun b hb => ?_, B1.tb _ hm, fun H2 ext tabs p hp => ?_⟩
    · cases t with
      | false => exact .inl hl'
      | true => exact .inr hl'
    · obtain ⟨p, e, hp⟩ := e3 b hb
      exact ⟨p, e, B1.ex _ _ hp⟩
    · obtain ⟨B2, S2⟩ := bas_ext B1 hm hu ext tabs
      have dv : DvAll A0 ((sortLR (·.2) bs).map (·.1)) ((sortLR id yss).map tupS) := by
        rw [← e2, ← map_sortLR]
        exact tups_mk fun b hb => e3 b (List.mem_mergeSort.mp hb)
      exact k _ _ A0 _ (B2.new hp) ((S1.trans S2).trans (.new hp)) (.own upd_same dv (B2.ex.free hp) (B2.out hp) ((S1.trans S2).free hp (B2.out hp))) w1
theorem ge_sortLR {c P : Addr} {q : Str} {e : Expr} {te : TE} {m : GM} {p p1 p2 p3 p4 p5 pa pos : Pos} {kx : Nat} {scope : Scope} (hts : (P, q) ∈ TabCx.ts) (hus : ∀ t ∈ TabCx.ts, t.1 = P → t.2 = q) (T1 : Tab1 X c P q) (hu : X.A.units + 64 < cLine) (hdp : X.A.depth < recursionLimit) (hg : Gl X "sorted") (hm : X.mg "sorted" = none) (hm2 : X.mg "len" = none) (he : GE X e te m)
    (hkind : scope.kind = .function := by rfl) (hco : scope.isCoroutine = false := by rfl) (hgen : scope.isGenerator = false := by rfl) (hrow : scope.names.lookup ("row" : Str) = some .local := by rfl) (hlen : scope.names.lookup ("len" : Str) = some .globalImplicit := by rfl) (hcell : ∀ x ∈ scope.names, x.2 ≠ .cell := by decide) (hfree : ∀ y ∈ scope.names, y.2 ≠ .free := by decide)
    (hclo : cloFrom X.env.cells scope.names [] = [] := by rfl) (na : backTo pos (starEach [e] X.env) = (false, eval e X.env) :: backTo pos (starEach [] X.env) := by rfl) (na2 : (backTo pos (starEach [e] X.env)).any (·.1) = false := by rfl) (na3 : starEach [e] X.env = (false, eval e X.env) :: starEach [] X.env := by rfl) {lp kp : Pos} :
    GE X (.Call (.Name "sorted" p) [e] [⟨some "key", .Lambda { posonlyargs := [], args := [{ arg := "row", annotation := none, pos := pa }], vararg := none, kwonlyargs := [], kw_defaults := [], kwarg := none, defaults := [] } (.Tuple [.Call (.Name "len" p1) [.Name "row" p2] [] p3, .Name "row" p4] kx p5) scope lp, kp⟩] pos) (tSortLR X.K P q te) (mSortLR m) :=
  ⟨pe_sortLR (p6 := pos) T1 hu hdp hg hm hm2 he.pe hkind hco hgen hrow hlen hcell hfree hclo na na2 na3, snd_sortLR hts hus he.sn⟩
/-! ### sorted(e) -/
def mSorted (m : GM) : GM := fun ρ P => m ρ fun z => ∃ t xs, z.seq = some (t, xs) ∧ D.plains xs = true ∧ AllAlike (D.pys xs) ∧ Sortable (D.pys xs) ∧ (∀ x ∈ xs, x.py.depth ≤ 60) ∧ P (.own (xs.mergeSort (dataLe false D.py)))
def fSorted : List Z → (Z → Prop) → Prop := fun zs P => ∃ z t xs, zs = [z] ∧ z.seq = some (t, xs) ∧ D.plains xs = true ∧ AllAlike (D.pys xs) ∧ Sortable (D.pys xs) ∧ (∀ x ∈ xs, x.py.depth ≤ 60) ∧ P (.own (xs.mergeSort (dataLe false D.py)))
theorem dv_pairs {H : Hp} : ∀ {vs : List V} {xs : List D}, DvAll H vs xs → ∃ bs : List (V × D), vs = bs.map (·.1) ∧ bs.map (·.2) = xs ∧ ∀ b ∈ bs, Dv H b.1 b.2
  | _, _, .nil => ⟨[], rfl, rfl, fun _ h => nomatch h⟩
  | _, _, .cons (v := v) (d := d) r t => by
    obtain ⟨bs, e1, e2, e3⟩ := dv_pairs t
    refine ⟨(v, d) :: bs, by rw [e1]; rfl, by rw [← e2]; rfl, fun b hb => ?_⟩
    rcases List.mem_cons.mp hb with rfl | hb
    · exact r
    · exact e3 b hb
theorem dv_unpair {H : Hp} : ∀ {bs : List (V × D)}, (∀ b ∈ bs, Dv H b.1 b.2) → DvAll H (bs.map (·.1)) (bs.map (·.2))
  | [], _ => .nil
  | b :: r, h => .cons (h b List.mem_cons_self) (dv_unpair fun c hc => h c (List.mem_cons_of_mem _ hc))
theorem cs_sorted {K : PySem.W.Frag} : CallS (rSortedD K) fSorted := fun dr Hs H0 H xs zs Q P B h ⟨z, t, ys, e, ez, pl, al, so, dp, p⟩ k => by
  subst e
  obtain ⟨v, rfl, hv⟩ := h.one
  obtain ⟨a, vs, rfl, hl, da⟩ := hv.seq B ez
  have hl' := (hide_some hl).1
  obtain ⟨bs, e1, e2, e3⟩ := dv_pairs da
  subst e1 e2
  have pys : D.pys (bs.map (·.2)) = bs.map fun b => b.2.py := by rw [D.pys_eq, List.map_map]; rfl
  rw [pys] at al so
  rw [D.plains_eq, List.all_map] at pl
  refine ⟨a, bs, rfl, ?_, fun b hb => ?_, al, so, fun b hb => dp _ (List.mem_map_of_mem hb), fun p hp => ?_⟩
  · cases t with
    | false => exact .inl hl'
    | true => exact .inr hl'
  · exact ((e3 b hb).mono B.ex).dp (List.all_eq_true.mp pl b hb)
  · refine k _ _ H0 _ (B.new hp) (.new hp) (.own upd_same ?_ (B.ex.free hp) (B.out hp) hp) ‹_›
    have : (bs.map (·.2)).mergeSort (dataLe false D.py) = (bs.mergeSort (dataLe false fun b => b.2.py)).map (·.2) := (List.map_mergeSort (f := fun b : V × D => b.2) (r := dataLe false fun b : V × D => b.2.py) (s := dataLe false D.py) fun a _ b _ => rfl).symm
    rw [this]
    exact dv_unpair fun b hb => e3 b (List.mem_mergeSort.mp hb)
end
end GL
end
section
set_option linter.all false
set_option maxRecDepth 100000
set_option maxHeartbeats 4000000
/-! SetK: len(set(xs)), xs distinct texts, or distinct tuples of keys of one kind. -/
namespace GLS
open PySem PySem.Spec PyProof.Rows L2
section
variable {prg : Program} {wd : World} {K : Type} [DecidableEq K] {kd : KeyKind prg wd K} {A : Around} {E : Value → Shared → Prop} {s : Shared}
abbrev Tk (kd : KeyKind prg wd K) (h : Heap) (k : List K) (b : Addr) : Prop := IsTupleKey kd h k b
theorem plain_noClass {v : Value} (n : Nat) (h : carriedByValue v = true) : ofAClassStatement n v = pure false := by
  cases v with
  | ref b => cases h
  | _ => cases n <;> rfl
theorem plain_hash {v : Value} (n : Nat) (h : carriedByValue v = true) : ∃ b, hashByValue n v = pure b := by
  cases v with
  | ref b => cases h
  | _ => cases n <;> exact ⟨_, rfl⟩
theorem tup_noClass {k : List K} {b : Addr} {Q : Bool → Shared → Prop} (T : Tk kd s.heap k b) (q : Q false s) : wpAny (model prg wd) A (ofAClassStatement 8 (.ref b)) Q E s := by
  have ty := T.typeIs
  obtain ⟨ob, its, cnt, at_, _, dat, each⟩ := T
  unfold ofAClassStatement
  refine wpAny_bind (wpAny_typeOf ty ?_)
  dsimp only
  have same : (("tuple" : String) == "tuple") = true := by decide
  simp only [same, if_true, Bool.not_true, Bool.false_eq_true, if_false]
  refine wpAny_bind (wpAny_pure ?_)
  simp only [Bool.not_true, Bool.false_eq_true, if_false]
  refine wpAny_bind (wpAny_seqItems at_ dat ?_)
  dsimp only
  refine wpAny_bind ?_
  rw [← Array.forIn_toList]
  refine wpAny_forIn_list _ (fun left acc s1 => acc.1 = none ∧ s1 = s ∧ ∀ v ∈ left, carriedByValue v = true) _ ?_ ?_ _ _ ⟨rfl, rfl, each.byValue⟩
  · rintro v left acc s1 ⟨none_, rfl, all_⟩
    rw [plain_noClass _ (all_ v List.mem_cons_self)]
    refine wpAny_bind (wpAny_pure ?_)
    simp only [Bool.false_eq_true, if_false]
    exact wpAny_pure ⟨rfl, rfl, fun u hu => all_ u (List.mem_cons_of_mem _ hu)⟩
  · rintro ⟨a1, a2⟩ s1 ⟨none_, rfl, _⟩
    simp only at none_
    subst none_
    exact wpAny_pure q
theorem tup_hashKind {k : List K} {b : Addr} {Q : Bool → Shared → Prop} (T : Tk kd s.heap k b) (q : ∀ c, Q c s) : wpAny (model prg wd) A (hashByValue 8 (.ref b)) Q E s := by
  have ty := T.typeIs
  obtain ⟨ob, its, cnt, at_, _, dat, each⟩ := T
  unfold hashByValue
  refine wpAny_bind (wpAny_specialOf ty F.slot_tuple_hash.lookup ?_)
  refine wpAny_bind (m := seqItems? (.ref b)) (wpAny_seqItems at_ dat ?_)
  refine wpAny_bind ?_
  show wpAny _ _ (forIn its _ _) _ _ s
  rw [← Array.forIn_toList]
  refine wpAny_forIn_list _ (fun left acc s1 => acc.1 = none ∧ s1 = s ∧ ∀ v ∈ left, carriedByValue v = true) _ ?_ ?_ _ _ ⟨rfl, rfl, each.byValue⟩
  · rintro v left acc s1 ⟨none_, rfl, all_⟩
    obtain ⟨c, hc⟩ := plain_hash 7 (all_ v List.mem_cons_self)
    rw [hc]
    refine wpAny_bind (wpAny_pure ?_)
    cases c with
    | true =>
      simp only [Bool.not_true, Bool.false_eq_true, if_false]
      exact wpAny_pure ⟨rfl, rfl, fun u hu => all_ u (List.mem_cons_of_mem _ hu)⟩
    | false =>
      simp only [Bool.not_false, if_true]
      exact wpAny_pure (wpAny_pure (q _))
  · rintro ⟨a1, a2⟩ s1 ⟨none_, rfl, _⟩
    simp only at none_
    subst none_
    exact wpAny_pure (q true)
theorem tup_seen {k : List K} {b : Addr} {Q : Bool → Shared → Prop} (T : Tk kd s.heap k b) {ys : List Value} (hy : ∀ y ∈ ys, ∃ k' c, y = Value.ref c ∧ Tk kd s.heap k' c) (q : Q false s) : wpAny (model prg wd) A (searchCouldBeSeen (.ref b) ys) Q E s := by
  unfold searchCouldBeSeen
  refine wpAny_bind ?_
  refine wpAny_forIn_list _ (fun left acc s1 => acc.1 = none ∧ s1 = s ∧ ∀ y ∈ left, ∃ k' c, y = Value.ref c ∧ Tk kd s.heap k' c) _ ?_ ?_ _ _ ⟨rfl, rfl, hy⟩
  · rintro v left acc s1 ⟨none_, rfl, all_⟩
    obtain ⟨k', c, rfl, T'⟩ := all_ v List.mem_cons_self
    have more : ∀ y ∈ left, ∃ k' c, y = Value.ref c ∧ Tk kd s1.heap k' c := fun u hu => all_ u (List.mem_cons_of_mem _ hu)
    dsimp only
    by_cases eq : (b == c || (carriedByValue (.ref b) && carriedByValue (.ref c))) = true
    · exact wp_if_pos eq (wpAny_pure ⟨rfl, rfl, more⟩)
    · refine wp_if_neg eq (wpAny_bind (wpAny_eqIsQuiet_tuple T ?_))
      simp only [Bool.not_true, Bool.false_eq_true, if_false]
      refine wpAny_bind (wpAny_eqIsQuiet_tuple T' ?_)
      simp only [Bool.not_true, Bool.false_eq_true, if_false]
      refine wpAny_bind (tup_noClass T ?_)
      simp only [Bool.false_eq_true, if_false]
      refine wpAny_bind (tup_noClass T' ?_)
      simp only [Bool.false_eq_true, if_false]
      exact wpAny_pure ⟨rfl, rfl, more⟩
  · rintro ⟨a1, a2⟩ s1 ⟨none_, rfl, _⟩
    simp only at none_
    subst none_
    exact wpAny_pure q
/-! ### the set -/
def rows (kd : KeyKind prg wd K) (L : List (Addr × List K)) : List (Int × Value) := L.map fun q => (tupleKeyHash kd q.2, Value.ref q.1)
structure SK (kd : KeyKind prg wd K) (h : Heap) (a : Addr) (L : List (Addr × List K)) (es : Array (Int × Value)) (ep : Nat) (t : SetTable) : Prop where
  ob : ∃ o, h.get? a = some o ∧ o.ExactSet ∧ o.data = .set es ep t
  rw_ : es.toList = rows kd L
  tab : TabOk t (L.map fun q => tupleKeyHash kd q.2)
  tup : ∀ q ∈ L, Tk kd h q.2 q.1
  room : L.length * 5 < t.mask * 3
  few : L.length < 64
variable {a : Addr} {L : List (Addr × List K)} {es : Array (Int × Value)} {ep : Nat} {t : SetTable}
theorem rows_size (e : es.toList = rows kd L) : es.size = L.length := by
  have := congrArg List.length e
  rwa [Array.length_toList, rows, List.length_map] at this
theorem fits_of (e : es.toList = rows kd L) (h2 : t.place.size = L.length) (h3 : t.dummies = #[]) (h4 : L.length ≤ t.mask) : t.fits es.size = true := by
  have := rows_size e
  unfold SetTable.fits SetTable.fill
  rw [h3, Bool.and_eq_true, beq_iff_eq, decide_eq_true_eq]
  exact ⟨by omega, by show t.place.size + 0 ≤ t.mask; omega⟩
theorem SK.fits (R : SK kd s.heap a L es ep t) : t.fits es.size = true := by
  have h1 := R.tab.sz
  rw [List.length_map] at h1
  have := R.room
  exact fits_of R.rw_ h1 R.tab.dm (by omega)
theorem SK.entry (R : SK kd s.heap a L es ep t) {i : Nat} {q : Addr × List K} (h : L[i]? = some q) : es[i]? = some (tupleKeyHash kd q.2, Value.ref q.1) := by
  rw [← Array.getElem?_toList, R.rw_, rows, List.getElem?_map, h]
  rfl
/-- a new key finds an empty slot -/
theorem seek (R : SK kd s.heap a L es ep t) {x : Addr} {k : List K} (T : Tk kd s.heap k x) (hu : A.units < cLine) (new : ∀ q ∈ L, q.2 ≠ k) {h : Int} {n : Nat} (hn : n < 10 * SetTable.turns t.mask)
    (hN : way t.mask h n ∉ t.place.toList) (hB : ∀ c, c < n → way t.mask h c ∈ t.place.toList) {Q : SetFound → Shared → Prop} (q : Q (.free (way t.mask h n) false) s) :
    ∀ (f c : Nat) (st : Option SetTable.Probe), st.getD (t.probeStart h) = nth t.mask (runAt t.mask (SetTable.bits h % (t.mask + 1)) (SetTable.bits h)) c → c ≤ n → n - c < f → wpAny (model prg wd) A (setSearchFrom a (.ref x) h true f st) Q E s := by
  intro f
  induction f with
  | zero => intro c st _ _ hf; exact absurd hf (Nat.not_lt_zero _)
  | succ f ih =>
    intro c st hst hc hf
    obtain ⟨o, ho, hex, hd⟩ := R.ob
    rw [setSearchFrom_succ]
    refine wpAny_bind (wpAny_setState_of ho hd R.fits ?_)
    dsimp only
    refine wp_if_neg (by unfold SetTable.gaveWay; rw [mask_odd R.tab.mok]; decide) ?_
    have nod : ∀ (m : Nat) (p : SetTable.Probe), p.dummy = none → (nth t.mask p m).dummy = none := by
      intro m
      induction m with
      | zero => exact fun p z => z
      | succ m im => exact fun p z => im (adv t.mask p) (by unfold adv; split <;> exact z)
    generalize hp0 : runAt t.mask (SetTable.bits h % (t.mask + 1)) (SetTable.bits h) = p0 at hst
    have p0d : p0.dummy = none := by rw [← hp0]; rfl
    have way_ : ∀ m, (nth t.mask p0 m).j = way t.mask h m := fun m => by rw [← hp0]
    have sh : ∀ m, nth t.mask (nth t.mask p0 c) m = nth t.mask p0 (c + m) := fun m => (nth_add t.mask c _ m).symm
    have spec := go_spec t R.tab.ris R.tab.dm (fun i => (es[i]?.map (·.1)).getD 0) h (10 * SetTable.turns t.mask) (n - c) (nth t.mask p0 c) (nod c _ p0d) (by omega)
      (fun m hm => by rw [sh, way_]; exact hB (c + m) (by omega)) (by rw [sh, way_, show c + (n - c) = n by omega]; exact hN)
    rcases spec with ⟨m, i, hm, hi, _, _, pr⟩ | ⟨_, pr⟩
    · rw [sh, sh, way_] at pr
      rw [sh, way_] at hi
      have pr' : t.probe (fun i => (es[i]?.map (·.1)).getD 0) h (st.getD (t.probeStart h)) = some (.candidate (way t.mask h (c + m)) i (nth t.mask p0 (c + (m + 1)))) := by
        rw [hst]; exact pr
      rw [pr']
      dsimp only
      have il : i < L.length := by
        have z1 := (List.getElem?_eq_some_iff.mp hi).1
        have z2 := R.tab.sz
        rw [List.length_map] at z2
        rw [Array.length_toList] at z1
        omega
      obtain ⟨y, hy⟩ : ∃ y, L[i]? = some y := ⟨_, List.getElem?_eq_getElem il⟩
      have ym : y ∈ L := List.mem_of_getElem? hy
      have go : wpAny (model prg wd) A (searchRest a (.ref x) h true f es t (way t.mask h (c + m)) i (nth t.mask p0 (c + (m + 1)))) Q E s := by
        unfold searchRest
        rw [R.entry hy]
        dsimp only
        refine wpAny_bind (wpAny_holding (wpAny_eqBool_tuple hu (R.tup y ym) T ?_))
        refine wpAny_bind (wpAny_setState_of ho hd R.fits ?_)
        dsimp only
        have ne := new y ym
        refine wp_if_neg (by simp [ne]) ?_
        rw [sameMem]
        dsimp only
        have live : t.slot (way t.mask h (c + m)) = .live i := slot_live R.tab.ris hi
        simp only [if_true, live, R.entry hy]
        refine wpAny_bind (wpAny_isSame_ref_self (wpAny_bind (wpAny_pure ?_)))
        simp only [if_true]
        refine wp_if_neg (by simp [ne]) ?_
        exact ih (c + (m + 1)) _ (by rw [hp0]; rfl) (by omega) (by omega)
      by_cases led : t.led = true
      · exact wp_if_neg (by simp [led]) go
      · refine wp_if_pos (by simp [led]) (wpAny_bind (tup_seen T (fun z hz => ?_) ?_))
        · obtain ⟨e, he, ee⟩ := List.mem_map.mp hz
          have h1 : e ∈ es ∧ e.1 = h := by simpa using he
          have h2 : e ∈ es.toList := by simpa using h1.1
          rw [R.rw_] at h2
          obtain ⟨u, hu, e2⟩ := List.mem_map.mp h2
          exact ⟨u.2, u.1, by rw [← ee, ← e2], R.tup u hu⟩
        · exact wp_if_neg (by decide) go
    · rw [sh, way_, show c + (n - c) = n by omega] at pr
      have pr' : t.probe (fun i => (es[i]?.map (·.1)).getD 0) h (st.getD (t.probeStart h)) = some (.empty (way t.mask h n) none) := by
        rw [hst]; exact pr
      rw [pr']
      exact wpAny_pure q
theorem seek_at (R : SK kd s.heap a L es ep t) {x : Addr} {k : List K} (T : Tk kd s.heap k x) (hu : A.units < cLine) (new : ∀ q ∈ L, q.2 ≠ k) (h : Int) {Q : SetFound → Shared → Prop}
    (q : ∀ n, way t.mask h n ∉ t.place.toList → (∀ c, c < n → way t.mask h c ∈ t.place.toList) → Q (.free (way t.mask h n) false) s) : wpAny (model prg wd) A (setSearch a (.ref x) h true) Q E s := by
  have rm := R.room
  obtain ⟨n, hn, hN, hB⟩ := R.tab.first (by rw [List.length_map]; omega) h
  have lt : n < 100000 := by
    have : 10 * SetTable.turns t.mask ≤ 1420 := by
      unfold SetTable.turns
      rcases R.tab.mok with z | z | z <;> omega
    omega
  exact seek R T hu new hn hN hB (q n hN hB) 100000 0 none rfl (Nat.zero_le _) (by omega)
theorem tk_same {h h' : Heap} {k : List K} {b a : Addr} {o : Obj} (T : Tk kd h k b) (ho : h.get? a = some o) (hd : o.data = .set es ep t) (sb : Heap.SameBut a h h') : Tk kd h' k b := by
  obtain ⟨ob, its, m, e1, e2, e3, e4⟩ := T
  refine ⟨ob, its, m, (sb.2 b ?_).trans e1, e2, e3, e4⟩
  rintro rfl
  rw [ho] at e1
  cases e1
  rw [hd] at e3
  cases e3
theorem tk_keep {h h' : Heap} {k : List K} {b : Addr} (T : Tk kd h k b) (kp : ∀ c o, h.get? c = some o → h'.get? c = some o) : Tk kd h' k b := by
  obtain ⟨ob, its, m, e1, r⟩ := T
  exact ⟨ob, its, m, kp _ _ e1, r⟩
theorem SK.keep {h h' : Heap} (R : SK kd h a L es ep t) (ka : ∀ o, h.get? a = some o → h'.get? a = some o) (kt : ∀ q ∈ L, Tk kd h' q.2 q.1) : SK kd h' a L es ep t := by
  obtain ⟨o, ho, r⟩ := R.ob
  exact ⟨⟨o, ka o ho, r⟩, R.rw_, R.tab, kt, R.room, R.few⟩
theorem fm_take {α : Type} (l : List α) : (List.range l.length).filterMap (fun i => l[i]?) = l := by
  have aux : ∀ m, m ≤ l.length → (List.range m).filterMap (fun i => l[i]?) = l.take m := by
    intro m
    induction m with
    | zero => intro _; rfl
    | succ m ih =>
      intro hm
      have lt : m < l.length := hm
      rw [List.range_succ, List.filterMap_append, ih (Nat.le_of_lt lt), List.take_succ]
      simp [List.getElem?_eq_getElem lt]
  rw [aux _ (Nat.le_refl _), List.take_length]
theorem reorder (e : es.toList = rows kd L) {order : Array Nat} (hp : order.toList.Perm (List.range L.length)) :
    ∃ L2, (order.filterMap (es[·]?)).toList = rows kd L2 ∧ L2.Perm L ∧ (L2.map fun q => tupleKeyHash kd q.2) = order.toList.map fun i => (es.map (·.1)).getD i 0 := by
  have ent : ∀ i : Nat, es[i]? = Option.map (fun q : Addr × List K => (tupleKeyHash kd q.2, Value.ref q.1)) L[i]? := fun i => by rw [← Array.getElem?_toList, e, rows, List.getElem?_map]
  have aux : ∀ l : List Nat, (∀ i ∈ l, i < L.length) → l.filterMap (fun i => es[i]?) = rows kd (l.filterMap fun i => L[i]?) ∧ ((l.filterMap fun i => L[i]?).map fun q => tupleKeyHash kd q.2) = l.map fun i => (es.map (·.1)).getD i 0 := by
    intro l
    induction l with
    | nil => exact fun _ => ⟨rfl, rfl⟩
    | cons i l ih =>
      intro hl
      have lt := hl i List.mem_cons_self
      obtain ⟨e1, e2⟩ := ih fun j hj => hl j (List.mem_cons_of_mem _ hj)
      have hi : L[i]? = some L[i] := List.getElem?_eq_getElem lt
      have he : es[i]? = some (tupleKeyHash kd L[i].2, Value.ref L[i].1) := by rw [ent, hi]; rfl
      rw [List.filterMap_cons_some he, List.filterMap_cons_some hi, e1, List.map_cons, e2, List.map_cons]
      refine ⟨rfl, ?_⟩
      have : (es.map (·.1)).getD i 0 = tupleKeyHash kd L[i].2 := by
        have : (es.map (·.1))[i]? = some (tupleKeyHash kd L[i].2) := by rw [Array.getElem?_map, he]; rfl
        simp [Array.getD_eq_getD_getElem?, this]
      rw [this]
  obtain ⟨e1, e2⟩ := aux order.toList fun i hi => List.mem_range.mp (hp.mem_iff.mp hi)
  refine ⟨_, by simpa using e1, ?_, e2⟩
  have := hp.filterMap fun i => L[i]?
  rwa [fm_take] at this
/-- the table is laid anew, larger -/
theorem relayK {o : Obj} (ho : s.heap.get? a = some o) (hex : o.ExactSet) (hd : o.data = .set es ep t) (e : es.toList = rows kd L) (hp : t.place.size = L.length) (hdm : t.dummies = #[]) (hm : L.length ≤ t.mask)
    (tup : ∀ q ∈ L, Tk kd s.heap q.2 q.1) (few : L.length < 64) {wanted M : Nat} (hw : SetTable.sizeAbove wanted - 1 = M) (hM : MaskOk M) (hw2 : SetTable.sizeAbove wanted ≤ 128) (hn : L.length * 5 < M * 3) {Q : Unit → Shared → Prop}
    (hQ : ∀ h' L' es' ep' t', Heap.SameBut a s.heap h' → SK kd h' a L' es' ep' t' → L'.Perm L → Q () { s with heap := h' }) : wpAny (model prg wd) A (setRelay a wanted) Q E s := by
  have sz := rows_size e
  obtain ⟨t', order, er, pm, T, em, _, _, _⟩ := relaid_ok t (hs := es.map (·.1)) (wanted := wanted) hw hM (by rw [Array.size_map, sz]; omega)
  rw [Array.size_map, sz] at pm
  obtain ⟨L2, r1, r2, r3⟩ := reorder e pm
  rw [← r3] at T
  have sz2 : (order.filterMap (es[·]?)).size = es.size := by rw [rows_size r1, r2.length_eq, sz]
  rw [setRelay_eq]
  refine wpAny_bind (wpAny_setState_of ho hd (fits_of e hp hdm hm) ?_)
  dsimp only
  refine wp_if_neg (by rw [sizeLine_eq]; omega) ?_
  rw [er]
  dsimp only
  refine wpAny_bind ?_
  refine wp_if_neg (by rw [sz2]; simp) ?_
  refine wpAny_pure ?_
  dsimp only
  refine wpAny_storeSet_of ho hd ?_ (by rw [sz2, sz, sizeLine_eq]; omega)
  have sb : Heap.SameBut a s.heap (s.heap.update a (Obj.putSet (order.filterMap (es[·]?)) t')) := Heap.SameBut.update ..
  exact hQ _ L2 _ (ep + 1) t' sb ⟨⟨_, store_at ho hd, ⟨hex.1, hex.2.1, hex.2.2⟩, rfl⟩, r1, T, fun q hq => tk_same (tup q (r2.mem_iff.mp hq)) ho hd sb, by rw [r2.length_eq, em]; exact hn, by rw [r2.length_eq]; exact few⟩ r2
/-- a new key is added -/
theorem addK (R : SK kd s.heap a L es ep t) {x : Addr} {k : List K} (T : Tk kd s.heap k x) (hu : A.units < cLine) (new : ∀ q ∈ L, q.2 ≠ k) (few : L.length + 1 < 64) {Q : Bool → Shared → Prop}
    (hQ : ∀ b h' L' es' ep' t', Heap.SameBut a s.heap h' → SK kd h' a L' es' ep' t' → L'.Perm ((x, k) :: L) → Q b { s with heap := h' }) : wpAny (model prg wd) A (setAddHashed a (.ref x) (tupleKeyHash kd k)) Q E s := by
  obtain ⟨o, ho, hex, hd⟩ := R.ob
  have sz := rows_size R.rw_
  have rm := R.room
  unfold setAddHashed
  refine wpAny_holding ?_
  rw [show (100000 : Nat) = 99999 + 1 from rfl, setAddHashedIn_succ]
  refine wpAny_bind (wpAny_setState_of ho hd R.fits ?_)
  dsimp only
  refine wp_if_neg (by simp [byScan, Value.scannable]) ?_
  refine wpAny_bind (seek_at R T hu new _ fun n hN hB => ?_)
  dsimp only
  refine wpAny_bind (wpAny_setState_of ho hd R.fits ?_)
  dsimp only
  obtain ⟨q1, q2, q3, q4, q5, q6, q7, q8, q9⟩ := R.tab.put hN hB
  generalize hpt : t.put (way t.mask (tupleKeyHash kd k) n) = pt at q1 q3 q4 q5 q6 q7 q8 q9 ⊢
  obtain ⟨t1, p⟩ := pt
  dsimp only at q1 q3 q4 q5 q6 q7 q8 q9 ⊢
  subst q1
  have ein : (SetTable.insertAt es (SetTable.below t.place (way t.mask (tupleKeyHash kd k) n)) (tupleKeyHash kd k, Value.ref x)).toList = rows kd (L.take (SetTable.below t.place (way t.mask (tupleKeyHash kd k) n)) ++ (x, k) :: L.drop (SetTable.below t.place (way t.mask (tupleKeyHash kd k) n))) := by
    rw [SetTable.toList_insertAt, R.rw_]
    simp [rows]
  generalize SetTable.below t.place (way t.mask (tupleKeyHash kd k) n) = p at q2 q3 ein ⊢
  have pm := put_perm L p (x, k)
  have ll : (L.take p ++ (x, k) :: L.drop p).length = L.length + 1 := pm.length_eq
  have hh : (L.take p ++ (x, k) :: L.drop p).map (fun q => tupleKeyHash kd q.2) = (L.map fun q => tupleKeyHash kd q.2).take p ++ tupleKeyHash kd k :: (L.map fun q => tupleKeyHash kd q.2).drop p := by simp
  rw [← hh] at q3
  have es_sz := rows_size ein
  rw [ll] at es_sz
  generalize SetTable.insertAt es p (tupleKeyHash kd k, Value.ref x) = es1 at ein es_sz ⊢
  generalize L.take p ++ (x, k) :: L.drop p = L1 at pm ll q3 ein
  have tail : ∀ t2 : SetTable, t2.place = t1.place → t2.dummies = t1.dummies → t2.mask = t1.mask → t2.fill = t1.fill → wpAny (model prg wd) A (do
      storeSet a es1 t2
      if !false && t2.tooFull then setRelay a (SetTable.grown (es.size + 1))
      return true) Q E s := by
    intro t2 f1 f2 f3 f4
    have T2 : TabOk t2 (L1.map fun q => tupleKeyHash kd q.2) := by
      refine ⟨by rw [f1]; exact q3.ris, by rw [f2]; exact q3.dm, by rw [f1]; exact q3.sz, by rw [f3]; exact q3.mok, by rw [f1, f3]; exact q3.bd, ?_⟩
      rw [f1, f3]
      exact q3.reach
    refine wpAny_bind (wpAny_storeSet_of ho hd ?_ (by rw [es_sz, sizeLine_eq]; omega))
    have sb : Heap.SameBut a s.heap (s.heap.update a (Obj.putSet es1 t2)) := Heap.SameBut.update ..
    have ho1 := store_at (es' := es1) (t' := t2) ho hd
    generalize s.heap.update a (Obj.putSet es1 t2) = h1 at sb ho1 ⊢
    have tup1 : ∀ q ∈ L1, Tk kd h1 q.2 q.1 := fun q hq => by
      rcases List.mem_cons.mp (pm.mem_iff.mp hq) with z | z
      · rw [z]; exact tk_same T ho hd sb
      · exact tk_same (R.tup q z) ho hd sb
    rw [Bool.not_false, Bool.true_and]
    by_cases full : t2.tooFull = true
    · have ge : (L.length + 1) * 5 ≥ t2.mask * 3 := by
        have z := full
        unfold SetTable.tooFull at z
        rw [decide_eq_true_eq, f4, q9, List.length_map] at z
        exact z
      have two : (t2.mask = 7 ∧ L.length = 4) ∨ (t2.mask = 31 ∧ L.length = 18) := by
        rw [f3, q4] at ge ⊢
        rcases R.tab.mok with z | z | z
        · exact .inl ⟨z, by omega⟩
        · exact .inr ⟨z, by omega⟩
        · omega
      refine wp_if_pos full (wpAny_bind ?_)
      rw [sz]
      have rel : ∀ M, SetTable.sizeAbove (SetTable.grown (L.length + 1)) - 1 = M → MaskOk M → SetTable.sizeAbove (SetTable.grown (L.length + 1)) ≤ 128 → (L.length + 1) * 5 < M * 3 →
          wpAny (model prg wd) A (setRelay a (SetTable.grown (L.length + 1))) (fun _ s' => wpAny (model prg wd) A (pure true) Q E s') E { s with heap := h1 } := fun M m1 m2 m3 m4 =>
        relayK (s := { s with heap := h1 }) ho1 ⟨hex.1, hex.2.1, hex.2.2⟩ rfl ein (by have := T2.sz; rwa [List.length_map] at this) T2.dm (by rw [ll]; rcases two with ⟨z, z2⟩ | ⟨z, z2⟩ <;> omega) tup1 (by rw [ll]; exact few) m1 m2 m3 (by rw [ll]; exact m4)
          fun h2 L2 es2 ep2 t2 sb2 R2 pm2 => wpAny_pure (hQ true h2 L2 es2 ep2 t2 (sb.trans sb2) R2 (pm2.trans pm))
      rcases two with ⟨_, z⟩ | ⟨_, z⟩
      · exact rel 31 (by rw [z, size_20]) (.inr (.inl rfl)) (by rw [z, size_20]; decide) (by omega)
      · exact rel 127 (by rw [z, size_76]) (.inr (.inr rfl)) (by rw [z, size_76]; decide) (by omega)
    · refine wp_if_neg full ?_
      refine wpAny_pure (hQ true h1 L1 es1 (ep + 1) t2 sb ⟨⟨_, ho1, ⟨hex.1, hex.2.1, hex.2.2⟩, rfl⟩, ein, T2, tup1, ?_, by rw [ll]; exact few⟩ pm)
      have z := full
      unfold SetTable.tooFull at z
      rw [decide_eq_true_eq, f4, q9, List.length_map] at z
      rw [ll]
      omega
  by_cases pl : t1.plain = true
  · refine wp_if_pos pl (wpAny_bind (tup_hashKind T fun c => ?_))
    cases c with
    | true => exact tail t1 rfl rfl rfl rfl
    | false => exact tail { t1 with plain := false } rfl rfl rfl rfl
  · refine wp_if_neg pl ?_
    exact tail t1 rfl rfl rfl rfl
end
end GLS
end
section
set_option linter.all false
set_option maxRecDepth 100000
set_option maxHeartbeats 4000000
namespace GLS
open PySem PySem.Spec PyProof.Rows L2
section
variable {prg : Program} {wd : World} {A : Around} {E : Value → Shared → Prop} {s : Shared}
/-- what the set at a holds after i items -/
structure Fill (prg : Program) (wd : World) (A : Around) (S : Addr) (wr : List Addr) (n : Nat) (Pv : Nat → Value → Prop) (Iv : Nat → Heap → Prop) : Prop where
  step : ∀ (i : Nat) (v : Value) (s : Shared) (Q : Shared → Prop) (E : Value → Shared → Prop), i < n → Pv i v → Iv i s.heap → (∀ h' tk, s.toks ≤ tk → Heap.SameBut S s.heap h' → Iv (i + 1) h' → Q { s with heap := h', toks := tk }) → wpAny (model prg wd) A (setAdd S v) (fun _ s' => Q s') E s
  frame : ∀ (i : Nat) (h h' : Heap), Iv i h → (∀ b o, b ∉ wr → h.get? b = some o → h'.get? b = some o) → Iv i h'
theorem loop_fill {I S : Addr} {fp wr : List Addr} {G : Array GenState → Array GenState → Prop} {n : Nat} {Pv : Nat → Value → Prop} {St : Nat → Shared → Prop} {Iv : Nat → Heap → Prop} {R : Result → Shared → Prop}
    (W : WalksS prg wd A.in1 I fp wr G n Pv St) (hS : S ∉ fp) (FL : Fill prg wd A.in1 S wr n Pv Iv) :
    ∀ (k i : Nat) (s : Shared), n - i = k → i ≤ n → St i s → Iv i s.heap → (∀ s', Moved (S :: wr) G s s' → Iv n s'.heap → R (.ok (.ret .none)) s') → codeAny (model prg wd) A (.builtin "set.update.loop" ⟨[.ref S, .ref I], []⟩) R s := by
  have wide : ∀ b ∈ wr, b ∈ S :: wr := fun b hb => List.mem_cons_of_mem _ hb
  intro k
  induction k with
  | zero =>
    intro i s hk hi st iv out
    obtain rfl : i = n := by omega
    refine codeAny_builtin F.entry_set_update_loop ?_
    rw [Around.under_plainId F.plain_set_update_loop _]
    refine wpAny_bind (m := pyNext (.ref I)) (W.done s _ _ st fun s1 mv => ?_)
    exact wpAny_pure (out s1 (mv.mono wide) (FL.frame _ _ _ iv mv.heap))
  | succ k ih =>
    intro i s hk hi st iv out
    have lt : i < n := by omega
    refine codeAny_builtin F.entry_set_update_loop ?_
    rw [Around.under_plainId F.plain_set_update_loop _]
    refine wpAny_bind (m := pyNext (.ref I)) (W.item i s _ _ lt st fun v s1 pv st1 mv => ?_)
    refine wpAny_bind (m := holding [v] (setAdd S v)) (wpAny_holding ?_)
    refine FL.step i v s1 _ _ lt pv (FL.frame _ _ _ iv mv.heap) fun h2 tk le sb iv2 => ?_
    refine wpAny_pure ⟨plainId_quiet F.plain_set_update_loop _, ih (i + 1) _ (by omega) lt (W.frame _ s1 _ _ st1 le fun b hb o e => ?_) iv2 fun s3 mv3 iv3 => ?_⟩
    · rw [sb.2 b fun z => hS (by rw [← z]; exact hb)]
      exact e
    · refine out s3 (Moved.trans W.gtrans ((mv.mono wide).then_heap le fun b o hb e => ?_) mv3) iv3
      rw [sb.2 b fun z => hb (by rw [z]; exact List.mem_cons_self)]
      exact e
/-- a set of a list's or a tuple's items -/
theorem set_of {l : Addr} {its : Array Value} {Iv : Nat → Heap → Prop} {Q : Value → Shared → Prop} (hh : A.handled = none) (hl : s.heap.IsList l its ∨ s.heap.IsTuple l its)
    (h0 : ∀ h', (∀ b o, s.heap.get? b = some o → h'.get? b = some o) → (∃ led, h'.get? s.heap.objs.size = some { cls := .type "set", dict := none, data := .set #[] 0 (.fresh 0 0 led) }) → Iv 0 h')
    (FL : ∀ (A' : Around), A'.units ≤ A.units + 8 → Fill prg wd A' s.heap.objs.size [s.heap.objs.size + 1] its.size (fun i v => its[i]? = some v) Iv)
    (h : ∀ (h' : Heap) (tk : Nat), Iv its.size h' → (∀ b o, s.heap.get? b = some o → h'.get? b = some o) → Q (.ref s.heap.objs.size) { s with heap := h', toks := tk }) :
    wpAny (model prg wd) A (call (.type "set") [.ref l]) Q E s := by
  obtain ⟨c, tl, hmro⟩ := F.called_set.mro
  have hmade := F.called_set.made
  have hsub := F.called_set.sub
  refine wpAny_call (codeAny_of_tree ?_)
  refine wpAny_pure ⟨Code.quiet_builtin _ (by decide +kernel), codeAny_builtin F.entry_type_call ?_⟩
  rw [Around.under_plain (weight_type_call_type "set" [.ref l] []) rfl]
  have h1 := F.called_set.notType
  have h2 := F.called_set.canCreate
  have hct := F.typeCall_set_1 (.ref l)
  repeat (any_goals (first | assumption | wp_step))
  generalize hled : (!wd.params.followText "set-order") = led at *
  refine codeAny_mono (code_set_led1 (.ref l) (E := E) (Q₁ := fun obj s₁ => obj = .ref s.heap.objs.size ∧ s₁ = { s with heap := s.heap.push { cls := .type "set", dict := none, data := .set #[] 0 (.fresh 0 0 led) } }) ⟨rfl, by rw [hled]⟩) fun r s₁ hr => ?_
  generalize hso : ({ cls := .type "set", dict := none, data := .set #[] 0 (.fresh 0 0 led) } : Obj) = so at *
  rcases r with e | (_ | _ | _ | obj)
  · exact hr
  · exact hr.elim
  · exact hr.elim
  · exact hr.elim
  obtain ⟨rfl, rfl⟩ := hr
  have hS : (s.heap.push so).get? s.heap.objs.size = some so := Heap.get?_push_size _ (by rw [← hso]; rfl)
  have hT : Shared.TypeIs { s with heap := s.heap.push so } (.ref s.heap.objs.size) "set" := ⟨_, hS, by rw [← hso]⟩
  have hli := F.called_set.init.lookup
  have hbi := F.called_set.init.bind (.ref s.heap.objs.size)
  repeat (any_goals (first | assumption | wp_step))
  have lS : l < s.heap.objs.size := by
    rcases hl with ⟨o, ho, _⟩ | ⟨o, ho, _⟩ <;> exact Heap.lt_size ho
  have sz1 : (s.heap.push so).objs.size = s.heap.objs.size + 1 := Heap.size_push ..
  have neI : l ≠ (s.heap.push so).objs.size := by
    rw [sz1]; exact Nat.ne_of_lt (Nat.lt_succ_of_lt lS)
  have Sf : s.heap.objs.size ∉ [(s.heap.push so).objs.size, l] := by
    rw [sz1]; simp only [List.mem_cons, List.not_mem_nil, or_false, not_or]
    exact ⟨Nat.ne_of_lt (Nat.lt_succ_self _), Nat.ne_of_gt lS⟩
  have hh3 : A.in1.in1.in1.handled = none := by simp [hh]
  have fin : ∀ {G} (s1 s' : Shared), Moved (s.heap.objs.size :: [(s.heap.push so).objs.size]) G s1 s' → (s1.gens = s.gens ∧ s1.drawn = s.drawn ∧ s1.os = s.os ∧ ∀ b o, b < s.heap.objs.size → s.heap.get? b = some o → s1.heap.get? b = some o) → (G = fun (a b : Array GenState) => b = a) → Iv its.size s'.heap →
      ∃ h' tk, s' = { s with heap := h', toks := tk } ∧ Iv its.size h' ∧ ∀ b o, s.heap.get? b = some o → h'.get? b = some o := fun {G} s1 s' mv hg eG iv => by
    subst eG
    obtain ⟨h', g', d', tk', os'⟩ := s'
    have e1 : g' = s1.gens := mv.gens
    have e2 : d' = s1.drawn := mv.drawn
    have e3 : os' = s1.os := mv.os
    refine ⟨h', tk', by rw [e1, e2, e3, hg.1, hg.2.1, hg.2.2.1], iv, fun b o e => ?_⟩
    have lb := Heap.lt_size e
    refine mv.heap b o ?_ (hg.2.2.2 b o lb e)
    rw [sz1]; simp only [List.mem_cons, List.not_mem_nil, or_false, not_or]
    exact ⟨Nat.ne_of_lt lb, Nat.ne_of_lt (Nat.lt_succ_of_lt lb)⟩
  refine codeAny_mono (codeAny_call_builtin (R := wants (fun r s₂ => r = .none ∧ ∃ h' tk, s₂ = { s with heap := h', toks := tk } ∧ Iv its.size h' ∧ ∀ b o, s.heap.get? b = some o → h'.get? b = some o) E) F.called_set.init.plain F.entry_set_init (check_set_init_1 hT ?_)) fun r₂ s₂ hr₂ => ?_
  · rcases hl with hl | hl
    · obtain ⟨ol, hol, hcl, nl, hdl⟩ := hl
      obtain ⟨ocls, odict, odata, oslots⟩ := ol
      simp only at hcl hdl
      subst hcl; subst hdl; subst hso
      have hol' : (s.heap.push { cls := .type "set", dict := none, data := .set #[] 0 (.fresh 0 0 led) }).get? l = some { cls := .type "list", dict := odict, data := .seq its nl, slots := oslots } := Heap.get?_push_of_some _ hol
      have hsls := F.sub_list_set
      have hslf := F.sub_list_frozenset
      have hne : (Value.type "list" == Value.type "dict") = false := by decide
      have hl1 : (s.heap.push { cls := .type "set", dict := none, data := .set #[] 0 (.fresh 0 0 led) }).IsList l its := ⟨_, hol', rfl, nl, rfl⟩
      unfold Builtin.«set.__init__» noKeywords Builtin.Frozenset.updateFrom
      generalize hPI : pyIter = PI
      wp_walk
      subst hPI
      refine wpAny_pyIter_list hl1 ?_
      refine wpAny_bind (wpAny_runValue ?_)
      refine loop_fill ((Walks.list hh3 _ l neI its).toS) Sf (by have q := FL A.in1.in1.in1 (by simp only [Around.in1_units]; omega); rw [sz1]; exact q) (its.size - 0) 0 _ (by omega) (Nat.zero_le _) ⟨⟨_, Heap.get?_push_size _ rfl, rfl, rfl⟩, hl1.push _⟩
        (h0 _ (fun b o e => Heap.get?_push_of_some _ (Heap.get?_push_of_some _ e)) ⟨led, Heap.get?_push_of_some _ hS⟩) fun s' mv iv => ?_
      obtain ⟨h', tk, rfl, q1, q2⟩ := fin _ s' mv ⟨rfl, rfl, rfl, fun b o _ e => Heap.get?_push_of_some _ (Heap.get?_push_of_some _ e)⟩ rfl iv
      exact wpAny_pure (wpAny_pure ⟨rfl, h', tk, rfl, q1, q2⟩)
    · obtain ⟨ol, hol, hcl, nl, hdl⟩ := hl
      obtain ⟨ocls, odict, odata, oslots⟩ := ol
      simp only at hcl hdl
      subst hcl; subst hdl; subst hso
      have hol' : (s.heap.push { cls := .type "set", dict := none, data := .set #[] 0 (.fresh 0 0 led) }).get? l = some { cls := .type "tuple", dict := odict, data := .seq its nl, slots := oslots } := Heap.get?_push_of_some _ hol
      have hsls := F.sub_tuple_set
      have hslf := F.sub_tuple_frozenset
      have hne : (Value.type "tuple" == Value.type "dict") = false := by decide
      have hl1 : (s.heap.push { cls := .type "set", dict := none, data := .set #[] 0 (.fresh 0 0 led) }).IsTuple l its := ⟨_, hol', rfl, nl, rfl⟩
      unfold Builtin.«set.__init__» noKeywords Builtin.Frozenset.updateFrom
      generalize hPI : pyIter = PI
      wp_walk
      subst hPI
      refine wpAny_pyIter_tuple hl1 ?_
      refine wpAny_bind (wpAny_runValue ?_)
      refine loop_fill ((Walks.tuple hh3 _ l neI its).toS) Sf (by have q := FL A.in1.in1.in1 (by simp only [Around.in1_units]; omega); rw [sz1]; exact q) (its.size - 0) 0 _ (by omega) (Nat.zero_le _) ⟨⟨_, Heap.get?_push_size _ rfl, rfl, rfl⟩, hl1.push _⟩
        (h0 _ (fun b o e => Heap.get?_push_of_some _ (Heap.get?_push_of_some _ e)) ⟨led, Heap.get?_push_of_some _ hS⟩) fun s' mv iv => ?_
      obtain ⟨h', tk, rfl, q1, q2⟩ := fin _ s' mv ⟨rfl, rfl, rfl, fun b o _ e => Heap.get?_push_of_some _ (Heap.get?_push_of_some _ e)⟩ rfl iv
      exact wpAny_pure (wpAny_pure ⟨rfl, h', tk, rfl, q1, q2⟩)
  · rcases r₂ with e | (_ | _ | _ | r)
    · exact hr₂
    · exact hr₂.elim
    · exact hr₂.elim
    · exact hr₂.elim
    obtain ⟨rfl, h', tk, rfl, iv, kp⟩ := hr₂
    repeat (any_goals (first | assumption | wp_step))
    exact h _ _ iv kp
end
end GLS
end
section
set_option linter.all false
set_option maxRecDepth 100000
set_option maxHeartbeats 4000000
namespace GLS
open PySem PySem.Spec PyProof.Rows L2
section
variable {prg : Program} {wd : World} {A : Around} {E : Value → Shared → Prop} {s : Shared}
theorem fill_str {xs : List Str} {its : Array Value} (hi : StrsAre its.toList xs) (nd : xs.Nodup) (few : xs.length ≤ 4000) (S I : Addr) (ne : S ≠ I) :
    Fill prg wd A S [I] its.size (fun i v => its[i]? = some v) (fun i h => h.SetOf (PySem.strKind prg wd) S (fun k => (xs.take i).any (· == k)) i) := by
  have sz : xs.length = its.size := by rw [← hi.len_eq, Array.length_toList]
  constructor
  · intro i v s Q E lt hv iv q
    obtain ⟨t, rfl⟩ := SS.strs_at hi i v (by rw [Array.getElem?_toList]; exact hv)
    have lt' : i < xs.length := by omega
    unfold setAdd
    refine wpAny_holding (wpAny_bind ((PySem.strKind prg wd).pyHash (k := xs.getD i Str.empty) (strKind_is _ _ _ _) ?_))
    refine wpAny_setAddHashed_of (knd := PySem.strKind prg wd) (s := { s with toks := s.toks + 1 }) (strKind_is _ _ _ _) rfl iv (by unfold scanBound; omega) fun h' sb so => ?_
    refine q h' _ (Nat.le_succ _) sb (SetOf_congr so (fun k => ?_) ?_)
    · have e : xs.getD i Str.empty = xs[i] := by simp [List.getD_eq_getElem?_getD, lt']
      rw [List.take_succ, List.getElem?_eq_getElem lt', e, Option.toList_some, List.any_append]
      congr 1
      rw [List.any_cons, List.any_nil, Bool.or_false]
      by_cases z : k = xs[i]
      · rw [decide_eq_true z, z, beq_self_eq_true]
      · rw [decide_eq_false z, beq_eq_false_iff_ne.mpr (Ne.symm z)]
    · have e : xs.getD i Str.empty = xs[i] := by simp [List.getD_eq_getElem?_getD, lt']
      rw [if_neg]
      rw [e]
      intro z
      obtain ⟨y, hy, ey⟩ := List.any_eq_true.mp z
      have ey' : y = xs[i] := beq_iff_eq.mp ey
      obtain ⟨j, hj, ej⟩ := List.getElem_of_mem hy
      rw [List.length_take] at hj
      have ji : j < i := by omega
      rw [List.getElem_take] at ej
      exact (List.pairwise_iff_getElem.mp nd j i (by omega) lt' ji) (ej.trans ey')
  · intro i h h' iv kp
    obtain ⟨o, es, ep, t, ho, r⟩ := iv
    exact ⟨o, es, ep, t, kp _ _ (by simpa using ne) ho, r⟩
theorem fill_tup {K : Type} [DecidableEq K] {kd : KeyKind prg wd K} {ks : List (Addr × List K)} {its : Array Value} (hi : its.toList = ks.map fun q => Value.ref q.1) (nd : (ks.map (·.2)).Nodup) (few : ks.length < 64) (S I : Addr) (ne : S ≠ I) (h0 : Heap) (fr : h0.get? S = none) (frI : h0.get? I = none)
    (hk : ∀ q ∈ ks, Tk kd h0 q.2 q.1) (hu : A.units < cLine) :
    Fill prg wd A S [I] its.size (fun i v => its[i]? = some v) (fun i h => (∀ b o, h0.get? b = some o → h.get? b = some o) ∧ ∃ L es ep t, SK kd h S L es ep t ∧ L.Perm (ks.take i)) := by
  have sz : its.size = ks.length := by rw [← Array.length_toList, hi, List.length_map]
  constructor
  · intro i v s Q E lt hv ⟨kp, L, es, ep, t, R, pm⟩ q
    have lt' : i < ks.length := by omega
    have ev : v = .ref ks[i].1 := by
      have := hv
      rw [← Array.getElem?_toList, hi, List.getElem?_map, List.getElem?_eq_getElem lt'] at this
      exact (Option.some.inj this).symm
    subst ev
    have T : Tk kd s.heap ks[i].2 ks[i].1 := tk_keep (hk _ (List.getElem_mem lt')) kp
    unfold setAdd
    refine wpAny_holding (wpAny_bind (wpAny_pyHash_tuple hu T ?_))
    refine addK (s := { s with toks := s.toks + (ks[i].2.length + 1) }) R T hu (fun p hp e => ?_) (by have := pm.length_eq; rw [List.length_take] at this; omega) fun b h' L' es' ep' t' sb R' pm' => q h' _ (Nat.le_add_right _ _) sb ⟨fun b o e => ?_, L', es', ep', t', R', ?_⟩
    · have hm := pm.mem_iff.mp hp
      obtain ⟨j, hj, ej⟩ := List.getElem_of_mem hm
      rw [List.length_take] at hj
      rw [List.getElem_take] at ej
      have ji : j < i := by omega
      have := List.pairwise_iff_getElem.mp nd j i (by rw [List.length_map]; omega) (by rw [List.length_map]; omega) ji
      rw [List.getElem_map, List.getElem_map, ej] at this
      exact this e
    · rw [sb.2 b fun z => by rw [z, fr] at e; cases e]
      exact kp b o e
    · rw [List.take_succ, List.getElem?_eq_getElem lt', Option.toList_some]
      exact pm'.trans (((List.Perm.cons _ pm)).trans (List.perm_append_singleton _ _).symm)
  · intro i h h' ⟨kp, L, es, ep, t, R, pm⟩ kq
    have kp' : ∀ b o, h0.get? b = some o → h'.get? b = some o := fun b o e => kq b o (by
      intro z
      rw [List.mem_singleton.mp z, frI] at e
      cases e) (kp b o e)
    refine ⟨kp', L, es, ep, t, R.keep (fun o e => kq _ _ (by simpa using ne) e) fun q hq => ?_, pm⟩
    exact tk_keep (hk q (List.mem_of_mem_take (pm.mem_iff.mp hq))) kp'
end
end GLS
namespace L2
open PySem PySem.Spec PyProof.Rows GLS
section
variable {X : Cx}
/-- what a list of distinct texts, or of distinct tuples of texts, is -/
def KeysD (K : PySem.W.Frag) (H : Hp) (xs : List V) : Prop := (∃ ys : List Str, xs = ys.map V.str ∧ ys.Nodup ∧ ys.length ≤ 4000) ∨
  ∃ ks : List (Addr × List Str), xs = ks.map (fun q => V.ref q.1) ∧ (∀ q ∈ ks, SqT K H q.1 (q.2.map V.str)) ∧ (ks.map (·.2)).Nodup ∧ ks.length < 64
def tLenSetK (K : PySem.W.Frag) (ta : TE) : TE := fun σ H Q => ta σ H fun x H1 => ∃ (l : Addr) (xs : List V), x = .ref l ∧ (SqL K H1 l xs ∨ SqT K H1 l xs) ∧ KeysD K H1 xs ∧ Q (.int xs.length) H1
theorem its_strs {P : Program} {w : World} : ∀ {ys : List Str} {us : List Value}, Vals (ys.map V.str) us → PySem.ItemsAre (PySem.strKind P w) ys us
  | [], _, .nil => .nil
  | y :: ys, _, .cons r t => by
    obtain ⟨k, rfl⟩ := r
    exact .cons (strKind_is _ _ _ _) (its_strs t)
theorem Inv.tks {pins : List (Addr × Obj)} {σ : L2.St} {H : Hp} {s : Shared} {b : Addr} {ys : List Str} (I : Inv X pins σ H s) (h : SqT X.K H b (ys.map V.str)) : Tk (PySem.strKind X.prog X.w) s.heap ys b := by
  obtain ⟨its, r, ⟨o, ho, hc, n, hd⟩, hz⟩ := I.tuple h
  exact ⟨o, _, n, ho, hc, hd, by simpa using its_strs r⟩
theorem refs_val : ∀ {ks : List (Addr × List Str)} {us : List Value}, Vals (ks.map fun q => V.ref q.1) us → us = ks.map fun q => Value.ref q.1
  | [], _, .nil => rfl
  | _ :: _, _, .cons r t => by
    rw [refs_val t]
    cases r
    rfl
theorem pe_lenSetK {a : Expr} {ta : TE} {p p2 q pos : Pos} (hc : X.calm = true) (hu : X.A.units + 64 < cLine) (hg : Gl X "len") (hm : X.mg "len" = none) (hg2 : Gl X "set") (hm2 : X.mg "set" = none) (ha : PE X a ta)
    (na : starEach [a] X.env = (false, eval a X.env) :: starEach [] X.env := by rfl) : PE X (.Call (.Name "len" p) [.Call (.Name "set" p2) [a] [] q] [] pos) (tLenSetK X.K ta) := by
  refine ⟨fun pins s σ H Q I h => Call_ (ld_blt I hg hm PySem.boot_len (PyProof.Rows.callWith_builtin1 (PyProof.Rows.args_cons ?_ rfl) rfl rfl))⟩
  refine Call_ (ld_blt I hg2 hm2 PyProof.Rows.boot_set (PyProof.Rows.callWith_type1 (PyProof.Rows.args_cons (thn (ha.run pins s σ H _ I h) fun v s1 ⟨x, H1, I1, r1, w1⟩ => PyProof.Rows.args_nil ?_) na) na rfl))
  obtain ⟨l, xs, rfl, hq, hk, w2⟩ := w1
  cases r1
  have fr : s1.heap.get? s1.heap.objs.size = none := Heap.get?_none_of_le (Nat.le_refl _)
  have fr2 : s1.heap.get? (s1.heap.objs.size + 1) = none := Heap.get?_none_of_le (Nat.le_succ _)
  obtain ⟨its, r, hl, hn⟩ : ∃ its : List Value, Vals xs its ∧ (s1.heap.IsList l its.toArray ∨ s1.heap.IsTuple l its.toArray) ∧ its.toArray.size = xs.length := by
    rcases hq with hq | hq
    · obtain ⟨its, r, pl, _⟩ := I1.list hq
      exact ⟨its, r, .inl pl.isList, by rw [List.size_toArray, ← r.length]⟩
    · obtain ⟨its, r, pl, _⟩ := I1.tuple hq
      exact ⟨its, r, .inr pl, by rw [List.size_toArray, ← r.length]⟩
  rcases hk with ⟨ys, rfl, nd, few⟩ | ⟨ks, rfl, ht, nd, few⟩
  · refine set_of (I1.ok.hd hc) hl (fun h' kp ⟨led, e⟩ => SetOf_congr ((PyProof.Rows.setObjOf_fresh (knd := PySem.strKind X.prog X.w) led).setOf e (by unfold scanBound; omega)) (fun _ => rfl) rfl) (fun A' _ => fill_str (by simpa using strsAre_of r) nd few _ _ (Nat.ne_of_lt (Nat.lt_succ_self _))) fun h' tk iv kp => ?_
    refine PyProof.Rows.args_nil ?_
    obtain ⟨o, es, ep, t, ho, hex, hd, _, _, _, hf, hz⟩ := iv
    rw [hn, List.length_map] at hz
    have I2 : Inv X pins σ H1 { s1 with heap := h', toks := tk } := I1.kept kp
    exact call_len_set ho hex hd hf (by rw [hz] <;> omega) ⟨.int ys.length, H1, I2.tok _, ⟨_, by rw [hz]⟩, by simpa using w2⟩
  · have hi := refs_val r
    refine set_of (I1.ok.hd hc) hl (fun h' kp ⟨led, e⟩ => ⟨kp, [], #[], 0, _, ⟨⟨_, e, ⟨rfl, rfl, rfl⟩, rfl⟩, rfl, ⟨List.Pairwise.nil, rfl, rfl, .inl rfl, fun x hx => (by cases hx), fun i h j hi => (by simp at hi)⟩, fun q hq => (by cases hq), by show 0 * 5 < 7 * 3; decide, by show 0 < 64; decide⟩, .nil⟩)
      (fun A' hA => fill_tup (kd := PySem.strKind X.prog X.w) (by simpa using hi) nd few _ _ (Nat.ne_of_lt (Nat.lt_succ_self _)) s1.heap fr fr2 (fun q hq => I1.tks (ht q hq)) (by omega)) fun h' tk ⟨kp, L, es, ep, t, R, pm⟩ _ => ?_
    refine PyProof.Rows.args_nil ?_
    obtain ⟨o, ho, hex, hd⟩ := R.ob
    have hz : es.size = ks.length := by
      rw [rows_size R.rw_, pm.length_eq, hn, List.length_map, List.take_of_length_le (by simp)]
    have I2 : Inv X pins σ H1 { s1 with heap := h', toks := tk } := I1.kept kp
    exact call_len_set ho hex hd (SK.fits (s := { s1 with heap := h', toks := tk }) R) (by rw [hz] <;> omega) ⟨.int ks.length, H1, I2.tok _, ⟨_, by rw [hz]⟩, by simpa using w2⟩
end
end L2
namespace GL
open PySem L2
variable [TabCx] [XCx]
section
variable {X : Cx} {a : Expr} {ta : TE} {ma : GM} {p p2 q pos : Pos}
/-- len(set(e)), e distinct texts or distinct tuples of texts -/
def DKeys (xs : List D) : Prop := (∃ ys : List Str, xs = ys.map D.str ∧ ys.Nodup ∧ ys.length ≤ 4000) ∨ ∃ yss : List (List Str), xs = yss.map (fun ys => D.tup (ys.map D.str)) ∧ yss.Nodup ∧ yss.length < 64
theorem DvAll.tups {H : Hp} : ∀ {yss : List (List Str)} {vs : List V}, DvAll H vs (yss.map fun ys => D.tup (ys.map D.str)) → ∃ ks : List (Addr × List Str), vs = ks.map (fun q => V.ref q.1) ∧ ks.map (·.2) = yss ∧ ∀ q ∈ ks, H q.1 = some (.tup (q.2.map V.str))
  | [], _, h => by cases h; exact ⟨[], rfl, rfl, fun _ h => nomatch h⟩
  | ys :: r, _, h => by
    cases h with
    | cons d t =>
      obtain ⟨ks, e1, e2, e3⟩ := DvAll.tups t
      cases d with
      | @tup b us _ hb db =>
        have e := db.strs_of
        subst e e1
        refine ⟨(b, ys) :: ks, rfl, by rw [List.map_cons, e2], fun q hq => ?_⟩
        rcases List.mem_cons.mp hq with rfl | hq
        · exact hb
        · exact e3 q hq
def mLenSet (m : GM) : GM := fun ρ P => m ρ fun z => ∃ t xs, z.seq = some (t, xs) ∧ DKeys xs ∧ P (.d (.int xs.length))
theorem ge_lenSet (hc : X.calm = true) (hu : X.A.units + 64 < cLine) (hg : Gl X "len") (hm : X.mg "len" = none) (hg2 : Gl X "set") (hm2 : X.mg "set" = none) (ha : GE X a ta ma)
    (na : starEach [a] X.env = (false, eval a X.env) :: starEach [] X.env := by rfl) : GE X (.Call (.Name "len" p) [.Call (.Name "set" p2) [a] [] q] [] pos) (tLenSetK X.K ta) (mLenSet ma) :=
  ⟨pe_lenSetK hc hu hg hm hg2 hm2 ha.pe na, fun dr Hi σ ρ H0 H Q P B R w k => ha.sn dr Hi σ ρ H0 H _ _ B R w fun v z A0 A1 B1 S1 zv ⟨t, xs, ez, hk, w1⟩ => by
    obtain ⟨l, vs, rfl, hl, da⟩ := zv.seq B1 ez
    have hl' := (hide_some hl).1
    refine ⟨l, vs, rfl, ?_, ?_, ?_⟩
    · cases t with
      | false => exact .inl (.of hl')
      | true => exact .inr (.of hl')
    · rcases hk with ⟨ys, rfl, nd, few⟩ | ⟨yss, rfl, nd, few⟩
      · exact .inl ⟨ys, da.strs_of, nd, few⟩
      · obtain ⟨ks, e1, e2, e3⟩ := da.tups
        refine .inr ⟨ks, e1, fun q hq => .of (B1.ex _ _ (e3 q hq)), by rw [e2]; exact nd, ?_⟩
        rw [← e2, List.length_map] at few
        exact few
    · rw [da.length]
      exact k _ _ A0 A1 B1 S1 (.d (.int _)) w1⟩
end
end GL
end
section
set_option linter.all false
set_option maxRecDepth 100000
set_option maxHeartbeats 4000000
namespace GL
open PySem L2 PySem.Calls PyProof.Rows
variable [TabCx] [XCx]
section
variable {X : Cx} {e a b o : Expr} {es : List Expr} {t ta tb : TE} {m ma mb : GM} {pos p : Pos} {tl : TA} {mz : GMA} {md : GMD}
/-! ### a value as a test -/
def truZ : Z → Option Bool
  | .d .non => some false
  | .d (.bl b) => some b
  | .d (.int i) => some (i != 0)
  | .d (.lst xs) => some (!xs.isEmpty)
  | .d (.tup xs) => some (!xs.isEmpty)
  | .bor _ xs => some (!xs.isEmpty)
  | .own xs => some (!xs.isEmpty)
  | _ => none
theorem DvAll.empty {H : Hp} {vs : List V} {xs : List D} (h : DvAll H vs xs) : vs.isEmpty = xs.isEmpty := by cases h <;> rfl
theorem Zv.tru {K : PySem.W.Frag} {dr : Option Dr} {Hs H0 H : Hp} {v : V} {z : Z} {b : Bool} (B : Bas dr H0 H) (h : Zv dr Hs H0 H v z) (e : truZ z = some b) : TruV K v H b := by
  have sq : ∀ {tt : Bool} {p : Addr} {vs : List V} {xs : List D}, H p = some (seqO tt vs) → DvAll H0 vs xs → b = !xs.isEmpty → TruV K (.ref p) H b := fun {tt p vs xs} hp da eb => by
    subst eb
    rw [← da.empty]
    cases tt with
    | false => exact .inl ⟨vs, .of hp, rfl⟩
    | true => exact .inr (.inl ⟨vs, .of hp, rfl⟩)
  cases h with
  | d d1 =>
    cases d1 with
    | non => cases e; exact rfl
    | bl c => cases e; exact rfl
    | int i => cases e; exact rfl
    | lst hp da => cases e; exact sq (tt := false) (B.ex _ _ hp) da rfl
    | tup hp da => cases e; exact sq (tt := true) (B.ex _ _ hp) da rfl
    | str => cases e
    | dic => cases e
    | obj => cases e
    | dit => cases e
  | bor hp da => cases e; exact sq (hide_some hp).1 da rfl
  | own hp da => cases e; exact sq (tt := false) hp da rfl
  | drw => cases e
def mTru (m : GM) : GMT := fun ρ P => m ρ fun z => ∃ b, truZ z = some b ∧ P b
theorem gt_tru (h : GE X e t m) (he : ∀ whole, isTrue e X.env whole = (do let v ← whole; standAt e.pos; holding [v] (truthy v)) := by intro _; rfl) : GT X e (fun σ H Q => t σ H fun x H' => ∃ k, TruV X.K x H' k ∧ Q k H') (mTru m) :=
  ⟨pt_truth h.pe he, fun dr Hi σ ρ H0 H Q P B R w k => h.sn dr Hi σ ρ H0 H _ _ B R w fun v z A0 A1 B1 S1 z1 ⟨b, e, q⟩ => ⟨b, z1.tru B1 e, k b A0 A1 B1 S1 q⟩⟩
/-! ### a < b < c -/
theorem gt_chain {op op' : CmpOp} {r r' : R2} {f f' : Z → Z → (Z → Prop) → Prop} {c : Expr} {tc : TE} {mc : GM} (ho : OpR X (compareOp op) r) (ho' : OpR X (compareOp op') r') (hs : OpS r f) (hs' : OpS r' f') (ha : GE X a ta ma) (hb : GE X b tb mb) (hc : GE X c tc mc)
    (hm : lastMarks [op, op'] [b, c] = false := by with_unfolding_all rfl) : GT X (.Compare a [op, op'] [b, c] pos) (tTest (tChain r r' ta tb tc)) (mTst (mChain f f' ma mb mc)) := ⟨pt_chain ho ho' ha.pe hb.pe hc.pe hm, fun dr Hi σ ρ H0 H Q P B R w k =>
  ha.sn dr Hi σ ρ H0 H _ _ B R w fun x zx A0 A1 B1 S1 z1 w1 => hb.sn dr Hi σ ρ A0 A1 _ _ B1 (R.step S1) w1 fun y zy C0 C1 B2 S2 z2 w2 =>
    hs dr H A1 C0 C1 x y zx zy _ _ B2 (z1.step S2) z2 w2 fun v z E0 E1 B3 S3 z3 ⟨c1, ec, w3⟩ => by
      subst ec
      cases z3 with
      | d d3 =>
        cases d3
        refine ⟨c1, rfl, ?_⟩
        cases c1 with
        | false =>
          simp only [Bool.false_eq_true, if_false] at w3
          obtain ⟨b, eb, q⟩ := w3
          cases eb
          exact ⟨false, rfl, k false E0 E1 B3 ((S1.trans S2).trans S3) q⟩
        | true =>
          simp only [if_true] at w3
          refine hc.sn dr Hi σ ρ E0 E1 _ _ B3 (R.step ((S1.trans S2).trans S3)) w3 fun u zu F0 F1 B4 S4 z4 w4 => ?_
          refine hs' dr _ _ F0 F1 y u zy zu _ _ B4 (z2.step (S3.trans S4)) z4 w4 fun v z G0 G1 B5 S5 z5 ⟨b, eb, q⟩ => ?_
          subst eb
          cases z5 with
          | d d5 => cases d5; exact ⟨b, rfl, k b G0 G1 B5 ((((S1.trans S2).trans S3).trans S4).trans S5) q⟩⟩
/-! ### x, y = a, b -/
/-- what goes into a slot: data, or a new list of one's own -/
inductive Gq (dr : Option Dr) (Hs H0 H : Hp) : V → G → Prop
  | d {v : V} {x : D} : Dv H0 v x → Gq dr Hs H0 H v (.d x)
  | own {p : Addr} {vs : List V} {xs : List D} : H p = some (.lst vs) → DvAll H0 vs xs → H0 p = none → Out dr p → Hs p = none → Gq dr Hs H0 H (.ref p) (.own xs)
theorem Gq.step {dr : Option Dr} {Hs H0 H H0' H' : Hp} {v : V} {g : G} (s : Step dr H0 H H0' H') (h : Gq dr Hs H0 H v g) : Gq dr Hs H0' H' v g := by
  cases h with
  | d d1 => exact .d (d1.mono s.e0)
  | own h k h0 o hs => exact .own (s.same h o) (k.mono s.e0) (own_kept s h h0 o) o hs
def mSto (oi : Bool) (m : GM) (ρ : Env) (P : G → Prop) : Prop := m ρ fun z => if oi = true then ∃ xs, z = .own xs ∧ P (.own xs) else ∃ x, z.dat = some x ∧ P (.d x)
theorem snd_sto {K : PySem.W.Frag} (oi : Bool) (h : SndE K t m) {dr : Option Dr} {Hi : Hp} {σ : L2.St} {ρ : Env} {H0 H : Hp} {Q : VK} {P : G → Prop} (B : Bas dr H0 H) (R : Rs K dr Hi H0 H σ ρ) (w : mSto oi m ρ P)
    (k : ∀ v g H0' H', Bas dr H0' H' → Step dr H0 H H0' H' → Gq dr H H0' H' v g → P g → Q v H') : t σ H Q := by
  cases oi with
  | false => exact snd_dat h dr Hi σ ρ H0 H Q (fun x => P (.d x)) B R w fun v x A0 A1 B1 S1 d1 p => k v _ A0 A1 B1 S1 (.d d1) p
  | true =>
    exact h dr Hi σ ρ H0 H Q _ B R w fun v z A0 A1 B1 S1 zv ⟨xs, e, p⟩ => by
      subst e
      cases zv with
      | own h k' h0 o hs => exact k _ _ A0 A1 B1 S1 (.own h k' h0 o hs) p
theorem Rs.put {K : PySem.W.Frag} {dr : Option Dr} {Hi H0 H A0 A1 : Hp} {σ : L2.St} {ρ : Env} {v : V} {g : G} (r : Rs K dr Hi H0 H σ ρ) (S : Step dr H0 H A0 A1) (i : Nat) (q : Gq dr H A0 A1 v g) (hi : ∀ p, Out dr p → H p = none → Hi p = none) : Rs K dr Hi A0 A1 (σ.set i (some v)) (ρ.set i (some g)) := by
  cases q with
  | d d1 => exact (r.step S).setD i d1
  | own h k h0 o hs => exact (r.step S).setO (A := H) i h k h0 o (hi _ o hs) (r.freshO hs)
def mPar2 (i j : Nat) (oi oj : Bool) (ma mb : GM) : GMS := fun D ρ => mSto oi ma ρ fun g => mSto oj mb ρ fun h => D.nx ((ρ.set i (some g)).set j (some h))
theorem gs_par2 (oi oj : Bool) {i j : Nat} {x y : Str} {px py pt : Pos} {kt k2 : Nat} {pt2 : Pos} (hc : X.calm = true) (hN : X.N.Nodup) (hi : X.N[i]? = some x) (hj : X.N[j]? = some y) (hij : i ≠ j) (hx : X.env.scope.names.lookup x = some .local) (hy : X.env.scope.names.lookup y = some .local) (ha : GE X a ta ma) (hb : GE X b tb mb)
    (hw : swappedStores [.Tuple [.Name x px, .Name y py] kt pt] (.Tuple [a, b] k2 pt2) X.env = pure (some [x, y])) (hs : swapsWithSole [.Tuple [.Name x px, .Name y py] kt pt] (.Tuple [a, b] k2 pt2) pos.line X.env = pure false := by rfl) (n1 : starEach [a, b] X.env = (false, eval a X.env) :: starEach [b] X.env := by rfl) (n2 : starEach [b] X.env = (false, eval b X.env) :: starEach [] X.env := by rfl) :
    GS X (.Assign [.Tuple [.Name x px, .Name y py] kt pt] (.Tuple [a, b] k2 pt2) pos) (tPar i j (tCons ta (tCons tb tNil))) (mPar2 i j oi oj ma mb) := ⟨ps_par hc hN hi hj hij hx hy (pa_cons ha.pe (pa_cons hb.pe pa_nil n2) n1) hw hs, fun dr H0i Hi σ ρ H0 H D E B S R L w =>
  snd_sto oi ha.sn B R w fun v g A0 A1 B1 S1 g1 w1 => snd_sto oj hb.sn B1 (R.step S1) w1 fun u h C0 C1 B2 S2 g2 w2 => by
    refine ⟨v, u, rfl, L.nx _ _ C0 C1 B2 ((S.trans S1).trans S2) ?_ w2⟩
    have R1 : Rs X.K dr Hi A0 A1 (σ.set i (some v)) (ρ.set i (some g)) := R.put S1 i g1 fun p o n => S.free n o
    exact R1.put S2 j g2 fun p o n => (S.trans S1).free n o⟩
/-- x, y, z = a, b, c: data and new lists -/
def mPar3 (i j l : Nat) (oi oj ol : Bool) (ma mb mc : GM) : GMS := fun D ρ => mSto oi ma ρ fun g => mSto oj mb ρ fun h => mSto ol mc ρ fun u => D.nx (((ρ.set i (some g)).set j (some h)).set l (some u))
/-! ### dicts with constant texts for keys -/
def lookD (k : Str) : List Key → List D → Option D
  | .inr n :: ns, x :: xs => if n = k then some x else lookD k ns xs
  | .inl _ :: ns, _ :: xs => lookD k ns xs
  | _, _ => none
theorem lookD_of {H : Hp} {k : Str} : ∀ {kvs : List (Key × V)} {xs : List D} {x : D}, DvAll H (kvs.map (·.2)) xs → lookD k (kvs.map (·.1)) xs = some x → ∃ v, valV kvs (Sum.inr k) = some v ∧ Dv H v x
  | [], _, _, h, e => by cases h; cases e
  | (.inl n, v) :: r, y :: ys, x, .cons h t, e => by
    obtain ⟨u, h1, h2⟩ := lookD_of (kvs := r) t e
    exact ⟨u, by rw [valV_neg (by intro q; cases q)]; exact h1, h2⟩
  | (.inr n, v) :: r, y :: ys, x, .cons h t, e => by
    have e' : (if n = k then some y else lookD k (r.map (·.1)) ys) = some x := e
    by_cases q : n = k
    · rw [if_pos q] at e'
      cases e'
      exact ⟨v, valV_pos (by rw [q]), h⟩
    · rw [if_neg q] at e'
      obtain ⟨u, h1, h2⟩ := lookD_of t e'
      exact ⟨u, by rw [valV_neg (by intro z; exact q (Sum.inr.inj z))]; exact h1, h2⟩
def mDGet (k : Str) (m : GMD) : GM := fun ρ P => m ρ fun x => ∃ ks xs y, x = .dic ks xs ∧ lookD k ks xs = some y ∧ P (.d y)
theorem ge_dget {k : Str} {j : Nat} {p2 : Pos} (hu : X.A.units + 1 < cLine) (ho : GD X o t md) : GE X (.Subscript o (.Constant (.str k) j p2) pos) (tDGet t (tC (.str k))) (mDGet k md) := ⟨pe_dget hu ho.pe pe_str fun _ _ => rfl, fun dr Hi σ ρ H0 H Q P B R w kk =>
  ho.sn dr Hi σ ρ H0 H _ _ B R w fun v x A0 A1 B1 S1 dv ⟨ks, xs, y, e, hl, q⟩ => by
    subst e
    cases dv with
    | dic hp h1 h2 da =>
      subst h1 h2
      obtain ⟨u, l, du⟩ := lookD_of da hl
      exact ⟨_, u, rfl, by rw [← l]; exact DGet.k (k := Sum.inr k) (B1.ex _ _ hp), kk u _ A0 A1 B1 S1 (.d du) q⟩⟩
end
end GL
end
section
set_option linter.all false
set_option maxRecDepth 100000
set_option maxHeartbeats 4000000
namespace GL
open PySem L2 PySem.Calls PyProof.Rows
variable [TabCx] [XCx]
section
variable {K : PySem.W.Frag} {dr : Option Dr} {Hi H0 H : Hp} {σ : L2.St} {ρ : Env}
/-- no slot may refer to p from now on -/
theorem frl_shield {Hi H0 H : Hp} (sb : Same H0 H) {p : Addr} {o : HO} (h : H p = none) {v : V} (f : Frl Hi H0 v) : Frl (upd Hi p o) H0 v := by
  induction f with
  | atom h => exact .atom h
  | lst e f _ ih =>
    refine .lst e ?_ ih
    rw [upd_ne]
    · exact f
    · rintro rfl
      rw [sb _ _ e] at h; cases h
  | tup e _ ih => exact .tup e ih
theorem Rs.shield (R : Rs K dr Hi H0 H σ ρ) (sb : Same H0 H) {p : Addr} (h : H p = none) : Rs K dr (upd Hi p (.dK [])) H0 H σ ρ := by
  have ne : ∀ {a u}, H a = some u → a ≠ p := fun e q => by rw [q, h] at e; cases e
  refine ⟨R.len, fun i g e => ?_, R.dist, R.xs, fun q a e => R.hx q a (by
    by_cases z : q = p
    · subst z; rw [upd_same] at e; cases e
    · rw [upd_ne z] at e; exact e)⟩
  obtain ⟨v, hv, gv⟩ := R.at_ i g e
  refine ⟨v, hv, ?_⟩
  cases gv with
  | d h => exact .d h
  | bor h1 h2 k => exact .bor (hide_mk (by rw [upd_ne (ne (hide_some h2).1)]; exact (hide_some h1).1) (hide_some h1).2) h2 k
  | own h1 k h0 o' hi => exact .own h1 k h0 o' (by rw [upd_ne (ne h1)]; exact hi)
  | drw e => exact .drw ‹_›
  | scr h1 => exact .scr h1
  | mk h1 h2 h3 k h0 o' hi => exact .mk h1 h2 h3 k h0 o' (by rw [upd_ne (ne h1)]; exact hi)
  | frs h' f => exact .frs h' (frl_shield sb h f)
  | odc h1 h2 h3 k h0 o' hi => exact .odc h1 h2 h3 k h0 o' (by rw [upd_ne (ne h1)]; exact hi)
  | odt h1 h2 h3 k h0 o' hi => exact .odt h1 h2 h3 k h0 o' (by rw [upd_ne (ne h1)]; exact hi)
theorem Rs.write {p : Addr} (R : Rs K dr (upd Hi p (.dK [])) H0 H σ ρ) (h1p : XCx.act → XCx.h1 p = none) (o : Out dr p) (u : HO) : Rs K dr (upd Hi p (.dK [])) H0 (upd H p u) σ ρ := by
  have np : ∀ {a : Addr} {w : HO}, hide dr (upd Hi p (.dK [])) a = some w → (∀ kvs, w ≠ .dK kvs) → a ≠ p := fun e n q => by
    subst q
    obtain ⟨e1, _⟩ := hide_some e
    rw [upd_same] at e1
    exact n _ (Option.some.inj e1).symm
  have nn : ∀ {a : Addr}, upd Hi p (.dK []) a = none → a ≠ p := fun e q => by subst q; rw [upd_same] at e; cases e
  refine ⟨R.len, fun i g e => ?_, R.dist, fun a => ⟨(R.xs a).1, (R.xs a).2.mut (h1p a)⟩, R.hx⟩
  obtain ⟨v, hv, gv⟩ := R.at_ i g e
  refine ⟨v, hv, ?_⟩
  cases gv with
  | d h => exact .d h
  | @bor t q vs xs h1 h2 k => exact .bor h1 (hide_mk (by rw [upd_ne (np h1 fun kvs => by cases t <;> exact nofun)]; exact (hide_some h2).1) (hide_some h2).2) k
  | own h1 k h0 o' hi => exact .own (by rw [upd_ne (nn hi)]; exact h1) k h0 o' hi
  | drw e => exact .drw ‹_›
  | scr h1 => exact .scr h1
  | mk h1 h2 h3 k h0 o' hi => exact .mk (by rw [upd_ne (nn hi)]; exact h1) h2 h3 k h0 o' hi
  | frs h f => exact .frs h f
  | odc h1 h2 h3 k h0 o' hi => exact .odc (by rw [upd_ne (nn hi)]; exact h1) h2 h3 k h0 o' hi
  | odt h1 h2 h3 k h0 o' hi => exact .odt (by rw [upd_ne (nn hi)]; exact h1) h2 h3 k h0 o' hi
end
/-! ### [e for x in xs if c for y in ys if d] -/
def mLc2L (g : D → Env → (Env → Prop) → Prop) (mt : GMT) (mi1 : GML) (g1 : D → Env → (Env → Prop) → Prop) (mt1 : GMT) (md : GMD) (vs1 : List Nat) : List D → Env → List D → (List D → Prop) → Prop
  | [], _, acc, P => P acc
  | x :: xs, ρ, acc, P => g x ρ fun ρ1 => mt ρ1 fun b => if b = true then mi1 ρ1 fun ys => mLcL g1 mt1 md ys (wipeG ρ1 vs1) acc fun acc' => mLc2L g mt mi1 g1 mt1 md vs1 xs ρ acc' P else mLc2L g mt mi1 g1 mt1 md vs1 xs ρ acc P
def mLc2 (mi : GML) (g : D → Env → (Env → Prop) → Prop) (mt : GMT) (mi1 : GML) (g1 : D → Env → (Env → Prop) → Prop) (mt1 : GMT) (md : GMD) (vs vs1 : List Nat) : GM := fun ρ P => mi ρ fun xs => mLc2L g mt mi1 g1 mt1 md vs1 xs (wipeG ρ vs) [] fun ys => P (.own ys)
theorem snd_lc2 {fr : Bool} {K : PySem.W.Frag} {wi wi1 : TI} {mi mi1 : GML} {tG tG1 : TG} {g g1 : D → Env → (Env → Prop) → Prop} {is is1 vs vs1 : List Nat} {tt tt1 : TT} {mt mt1 : GMT} {te : TE} {md : GMD} (hi : SndI fr K wi mi) (hg : SndG tG g is) (his : ∀ i ∈ is, i ∈ vs) (ht : SndT K tt mt)
    (hi1 : SndI true K wi1 mi1) (hg1 : SndG tG1 g1 is1) (his1 : ∀ i ∈ is1, i ∈ vs1) (ht1 : SndT K tt1 mt1) (he : SndD K te md) : SndE K (tLc2 wi tG tt wi1 tG1 tt1 te vs vs1) (mLc2 mi g mt mi1 g1 mt1 md vs vs1) :=
  fun dr Hi σ ρ H0 H Q P B R w k => hi dr Hi σ ρ H0 H _ _ B R w fun J xs A0 A1 B1 S1 wk q => by
    intro p hp
    have op := B1.out hp
    have h0p := B1.ex.free hp
    have hHp : H p = none := S1.free hp op
    have h1p : XCx.act → XCx.h1 p = none := fun a => ((R.step S1).xs a).2.free hp op
    -- a heap's start at which p is free
    have ok : ∀ C0 C, Step dr A0 A1 C0 C → (if fr then Same A0 C0 else Step dr A0 A1 C0 C) := fun C0 C o => by
      cases fr with
      | true => exact o.e0
      | false => exact o
    generalize hPf : (fun ys => P (.own ys)) = Pf at q
    refine ⟨fun i n H' => n = xs.length - i ∧ i ≤ xs.length ∧ ∃ H0' av acc, Bas dr H0' H' ∧ Step dr A0 A1 H0' H' ∧ H' p = some (.lst av) ∧ DvAll H0' av acc ∧ H0' p = none ∧ mLc2L g mt mi1 g1 mt1 md vs1 (xs.drop i) (wipeG ρ vs) acc Pf,
      ⟨xs.length, rfl, Nat.zero_le _, A0, [], [], B1.new hp, .new hp, upd_same, .nil, h0p, q⟩, ?_⟩
    rintro i n H' ⟨rfl, hle, H0', av, acc, B', S', hL, da, h0L, q'⟩
    by_cases hlt : i < xs.length
    · have kept : ∀ {av : List V} {H0' H' E0 E : Hp}, H' p = some (.lst av) → H0' p = none → Step dr H0' H' E0 E → E p = some (.lst av) ∧ E0 p = none := fun {av H0' H' E0 E} hL h0L s => ⟨s.same hL op, own_kept s hL h0L op⟩
      refine .inr ⟨wk.go i H0' H' hlt B' (ok _ _ S'), fun H2 => i + 1 ≤ xs.length ∧ ∃ H0' av acc, Bas dr H0' H2 ∧ Step dr A0 A1 H0' H2 ∧ H2 p = some (.lst av) ∧ DvAll H0' av acc ∧ H0' p = none ∧ mLc2L g mt mi1 g1 mt1 md vs1 (xs.drop (i + 1)) (wipeG ρ vs) acc Pf, fun H2 ⟨h1, h2⟩ => ⟨xs.length - (i + 1), by omega, rfl, h1, h2⟩, fun v H2 y => ?_⟩
      obtain ⟨C0, B2, S2, dv⟩ := wk.yld i xs[i] H0' H' v H2 (List.getElem?_eq_getElem hlt) B' (ok _ _ S') y
      rw [List.drop_eq_getElem_cons hlt] at q'
      · have R1 := ((R.step S1).wipe vs).shield B1.ex hp
        have R2 := R1.step (S'.trans S2)
        refine hg.run K dr _ C0 H2 (wipe σ vs) (wipeG ρ vs) v xs[i] _ _ B2 R2 dv q' fun σ3 ρ3 R3 hw q3 => ⟨wipe_idem (hw vs his), ?_⟩
        refine ht dr _ σ3 ρ3 C0 H2 _ _ B2 R3 q3 fun b E0 E1 B3 S3 q4 => ?_
        have S23 := S2.trans S3
        obtain ⟨k1, k2⟩ := kept hL h0L S23
        cases b with
        | false => exact ⟨hlt, E0, av, acc, B3, S'.trans S23, k1, da.mono S23.e0, k2, q4⟩
        | true =>
          refine hi1 dr _ σ3 ρ3 E0 E1 _ _ B3 (R3.step S3) q4 fun J1 ys F0 F1 B4 S4 wk1 q5 => ?_
          have S24 := S23.trans S4
          obtain ⟨l1, l2⟩ := kept hL h0L S24
          have R4 := ((R3.step S3).step S4).wipe vs1
          refine ⟨fun j n G' => n = ys.length - j ∧ j ≤ ys.length ∧ ∃ G0 av acc, Bas dr G0 G' ∧ Step dr A0 A1 G0 G' ∧ Same F0 G0 ∧ Rs K dr (upd Hi p (.dK [])) G0 G' (wipe σ3 vs1) (wipeG ρ3 vs1) ∧ G' p = some (.lst av) ∧ DvAll G0 av acc ∧ G0 p = none ∧
            mLcL g1 mt1 md (ys.drop j) (wipeG ρ3 vs1) acc (fun acc' => mLc2L g mt mi1 g1 mt1 md vs1 (xs.drop (i + 1)) (wipeG ρ vs) acc' Pf), ⟨ys.length, rfl, Nat.zero_le _, F0, av, acc, B4, S'.trans S24, Same.refl _, R4, l1, da.mono S24.e0, l2, q5⟩, ?_⟩
          rintro j n G' ⟨rfl, hle1, G0, av1, acc1, B5, S5, sm, R5, hL5, da5, h05, q6⟩
          by_cases hj : j < ys.length
          · refine .inr ⟨wk1.go j G0 G' hj B5 sm, fun G2 => j + 1 ≤ ys.length ∧ ∃ G0 av acc, Bas dr G0 G2 ∧ Step dr A0 A1 G0 G2 ∧ Same F0 G0 ∧ Rs K dr (upd Hi p (.dK [])) G0 G2 (wipe σ3 vs1) (wipeG ρ3 vs1) ∧ G2 p = some (.lst av) ∧ DvAll G0 av acc ∧ G0 p = none ∧
              mLcL g1 mt1 md (ys.drop (j + 1)) (wipeG ρ3 vs1) acc (fun acc' => mLc2L g mt mi1 g1 mt1 md vs1 (xs.drop (i + 1)) (wipeG ρ vs) acc' Pf), fun G2 ⟨h1, h2⟩ => ⟨ys.length - (j + 1), by omega, rfl, h1, h2⟩, fun u G2 y1 => ?_⟩
            obtain ⟨D0, B6, S6, du⟩ := wk1.yld j ys[j] G0 G' u G2 (List.getElem?_eq_getElem hj) B5 sm y1
            rw [List.drop_eq_getElem_cons hj] at q6
            refine hg1.run K dr _ D0 G2 (wipe σ3 vs1) (wipeG ρ3 vs1) u ys[j] _ _ B6 (R5.step S6) du q6 fun σ5 ρ5 R6 hw1 q7 => ⟨wipe_idem (hw1 vs1 his1), ?_⟩
            refine ht1 dr _ σ5 ρ5 D0 G2 _ _ B6 R6 q7 fun b1 L0 L1 B7 S7 q8 => ?_
            have S67 := S6.trans S7
            cases b1 with
            | false =>
              obtain ⟨m1, m2⟩ := kept hL5 h05 S67
              exact ⟨hj, L0, av1, acc1, B7, S5.trans S67, sm.trans S67.e0, R5.step S67, m1, da5.mono S67.e0, m2, q8⟩
            | true =>
              refine he dr _ σ5 ρ5 L0 L1 _ _ B7 (R6.step S7) q8 fun y yd M0 M1 B8 S8 dy ⟨hz, q9⟩ => ?_
              have S68 := S67.trans S8
              obtain ⟨m1, m2⟩ := kept hL5 h05 S68
              exact ⟨av1, m1, by rw [da5.length]; exact hz, hj, M0, av1 ++ [y], acc1 ++ [yd], B8.upd m2 op (by rw [m1]; trivial), (S5.trans S68).mut hp, sm.trans S68.e0, (R5.step S68).write h1p op _, upd_same, (da5.mono S68.e0).append (.cons dy .nil), m2, q9⟩
          · have e : j = ys.length := by omega
            subst e
            rw [List.drop_length] at q6
            exact .inl ⟨wk1.stop G0 G' B5 sm, hlt, G0, av1, acc1, B5, S5, hL5, da5, h05, q6⟩
    · have e : i = xs.length := by omega
      subst e
      rw [List.drop_length] at q'
      rw [← hPf] at q'
      exact .inl ⟨wk.stop H0' H' B' (ok _ _ S'), k _ _ H0' H' B' (S1.trans S') (.own hL da h0L op hHp) q'⟩
section
variable {X : Cx} {e a b o : Expr} {es : List Expr} {t ta tb : TE} {m ma mb : GM} {pos p : Pos} {tl : TA} {mz : GMA} {md : GMD}
theorem ge_lc2 {fr : Bool} {elt tg iter tg1 iter1 : Expr} {ifs ifs1 : List Expr} {scope : Scope} {own : List (Str × Nat)} {vs1 : List Nat} {wi wi1 : TI} {mi mi1 : GML} {tG tG1 : TG} {g g1 : D → Env → (Env → Prop) → Prop} {is is1 : List Nat} {tt tt1 : TT} {mt mt1 : GMT} {te : TE} (hc : X.calm = true) (hN : X.N.Nodup) (hi : GI fr X tg iter wi mi) (ok : BlkOk X.N X.env.scope scope own) (hv : ∀ i ∈ vs1, i ∈ own.map (·.2))
    (hg : ∀ (s : Shared) (H : Hp) (C : Addr) (cl : List (Str × Addr)) (fp : List Addr), GG (X.blk s H scope (compEnvC scope cl C X.env) fp) tg tG g is) (ht : ∀ (s : Shared) (H : Hp) (C : Addr) (cl : List (Str × Addr)) (fp : List Addr), GTs (X.blk s H scope (compEnvC scope cl C X.env) fp) ifs tt mt)
    (hi1 : ∀ (s : Shared) (H : Hp) (C : Addr) (cl : List (Str × Addr)) (fp : List Addr), GI true (X.blk s H scope (compEnvC scope cl C X.env) fp) tg1 iter1 wi1 mi1)
    (hg1 : ∀ (s : Shared) (H : Hp) (C : Addr) (cl : List (Str × Addr)) (fp : List Addr), GG (X.blk s H scope (compEnvC scope cl C X.env) fp) tg1 tG1 g1 is1) (ht1 : ∀ (s : Shared) (H : Hp) (C : Addr) (cl : List (Str × Addr)) (fp : List Addr), GTs (X.blk s H scope (compEnvC scope cl C X.env) fp) ifs1 tt1 mt1)
    (he : ∀ (s : Shared) (H : Hp) (C : Addr) (cl : List (Str × Addr)) (fp : List Addr), GD (X.blk s H scope (compEnvC scope cl C X.env) fp) elt te md) (his : ∀ i ∈ is, i ∈ own.map (·.2) := by decide) (his1 : ∀ i ∈ is1, i ∈ vs1 := by decide) (hs : ∀ x, foldedSetIterable iter X.env x = pure x := by intro _; rfl) (hs1 : ∀ env x, foldedSetIterable iter1 env x = pure x := by intro _ _; rfl) :
    GE X (.ListComp elt [⟨tg, iter, ifs, 0⟩, ⟨tg1, iter1, ifs1, 0⟩] scope pos) (tLc2 wi tG tt wi1 tG1 tt1 te (own.map (·.2)) vs1) (mLc2 mi g mt mi1 g1 mt1 md (own.map (·.2)) vs1) :=
  ⟨pe_lc2 hc hN hi.pi ok hv (fun s H C cl fp => (hg s H C cl fp).pg) (fun s H C cl fp => (ht s H C cl fp).pt) (fun s H C cl fp => (hi1 s H C cl fp).pi) (fun s H C cl fp => (hg1 s H C cl fp).pg) (fun s H C cl fp => (ht1 s H C cl fp).pt) (fun s H C cl fp => (he s H C cl fp).pe) hs hs1,
    snd_lc2 hi.sn (hg X.s_0 X.H_0 0 [] []).sn his (ht X.s_0 X.H_0 0 [] []).sn (hi1 X.s_0 X.H_0 0 [] []).sn (hg1 X.s_0 X.H_0 0 [] []).sn his1 (ht1 X.s_0 X.H_0 0 [] []).sn (he X.s_0 X.H_0 0 [] []).sn⟩
/-- y = [.. for .. for ..] -/
theorem gs_setLc2 {fr : Bool} {i : Nat} {y : Str} {py spos : Pos} {elt tg iter tg1 iter1 : Expr} {ifs ifs1 : List Expr} {scope : Scope} {own : List (Str × Nat)} {vs1 : List Nat} {wi wi1 : TI} {mi mi1 : GML} {tG tG1 : TG} {g g1 : D → Env → (Env → Prop) → Prop} {is is1 : List Nat} {tt tt1 : TT} {mt mt1 : GMT} {te : TE} (hc : X.calm = true) (hN : X.N.Nodup) (hy : X.N[i]? = some y) (hyl : X.env.scope.names.lookup y = some .local)
    (hsw : swapsWith (.ListComp elt [⟨tg, iter, ifs, 0⟩, ⟨tg1, iter1, ifs1, 0⟩] scope pos) (some (.Name y py)) spos.line X.env = pure true) (hi : GI fr X tg iter wi mi) (ok : BlkOk X.N X.env.scope scope own) (hv : ∀ i ∈ vs1, i ∈ own.map (·.2))
    (hg : ∀ (s : Shared) (H : Hp) (C : Addr) (cl : List (Str × Addr)) (fp : List Addr), GG (X.blk s H scope (compEnvC scope cl C X.env) fp) tg tG g is) (ht : ∀ (s : Shared) (H : Hp) (C : Addr) (cl : List (Str × Addr)) (fp : List Addr), GTs (X.blk s H scope (compEnvC scope cl C X.env) fp) ifs tt mt)
    (hi1 : ∀ (s : Shared) (H : Hp) (C : Addr) (cl : List (Str × Addr)) (fp : List Addr), GI true (X.blk s H scope (compEnvC scope cl C X.env) fp) tg1 iter1 wi1 mi1)
    (hg1 : ∀ (s : Shared) (H : Hp) (C : Addr) (cl : List (Str × Addr)) (fp : List Addr), GG (X.blk s H scope (compEnvC scope cl C X.env) fp) tg1 tG1 g1 is1) (ht1 : ∀ (s : Shared) (H : Hp) (C : Addr) (cl : List (Str × Addr)) (fp : List Addr), GTs (X.blk s H scope (compEnvC scope cl C X.env) fp) ifs1 tt1 mt1)
    (he : ∀ (s : Shared) (H : Hp) (C : Addr) (cl : List (Str × Addr)) (fp : List Addr), GD (X.blk s H scope (compEnvC scope cl C X.env) fp) elt te md) (his : ∀ i ∈ is, i ∈ own.map (·.2) := by decide) (his1 : ∀ i ∈ is1, i ∈ vs1 := by decide) (hs : ∀ x, foldedSetIterable iter X.env x = pure x := by intro _; rfl) (hs1 : ∀ env x, foldedSetIterable iter1 env x = pure x := by intro _ _; rfl) :
    GS X (.Assign [.Name y py] (.ListComp elt [⟨tg, iter, ifs, 0⟩, ⟨tg1, iter1, ifs1, 0⟩] scope pos) spos) (tAsg (tLc2 wi tG tt wi1 tG1 tt1 te (own.map (·.2)) vs1) (gName i)) (mSet i (mLc2 mi g mt mi1 g1 mt1 md (own.map (·.2)) vs1)) :=
  ⟨ps_setLc2 hc hN hy hyl hsw hi.pi ok hv (fun s H C cl fp => (hg s H C cl fp).pg) (fun s H C cl fp => (ht s H C cl fp).pt) (fun s H C cl fp => (hi1 s H C cl fp).pi) (fun s H C cl fp => (hg1 s H C cl fp).pg) (fun s H C cl fp => (ht1 s H C cl fp).pt) (fun s H C cl fp => (he s H C cl fp).pe) hs hs1, fun dr H0i Hi σ ρ H0 H D E B S R L w =>
    snd_dat (snd_lc2 hi.sn (hg X.s_0 X.H_0 0 [] []).sn his (ht X.s_0 X.H_0 0 [] []).sn (hi1 X.s_0 X.H_0 0 [] []).sn (hg1 X.s_0 X.H_0 0 [] []).sn his1 (ht1 X.s_0 X.H_0 0 [] []).sn (he X.s_0 X.H_0 0 [] []).sn) dr Hi σ ρ H0 H _ _ B R w fun v z A0 A1 B1 S1 dv q =>
      L.nx _ _ A0 A1 B1 (S.trans S1) ((R.step S1).setD i dv) q⟩
/-! ### {'k': e, ..} -/
structure GPs (X : Cx) (pos : Pos) (keys : List (Option Expr)) (values : List Expr) (trs : List (TE × TE)) (ks : List Str) (ml : GML) : Prop where
  pp : PPs X pos keys values trs
  sn : ∀ (dr : Option Dr) (Hi : Hp) (σ : L2.St) (ρ : Env) (H0 H : Hp) (Q : List (V × V) → Hp → Prop) (P : List D → Prop), Bas dr H0 H → Rs X.K dr Hi H0 H σ ρ → ml ρ P →
    (∀ (kvs : List (Key × V)) (xs : List D) (H0' H' : Hp), Bas dr H0' H' → Step dr H0 H H0' H' → kvs.map (·.1) = ks.map Sum.inr → DvAll H0' (kvs.map (·.2)) xs → P xs → Q (kvs.map fun kv => (kV kv.1, kv.2)) H') → tPairs trs σ H Q
theorem gps_nil : GPs X pos [] [] [] [] mLNil := ⟨pps_nil, fun dr Hi σ ρ H0 H Q P B R w k => k [] [] H0 H B .refl rfl .nil w⟩
theorem gps_cons {k : Str} {j : Nat} {p2 : Pos} {keys : List (Option Expr)} {values : List Expr} {trs : List (TE × TE)} {ks : List Str} {ml : GML} (hv : GD X e t md) (hr : GPs X pos keys values trs ks ml) : GPs X pos (some (.Constant (.str k) j p2) :: keys) (e :: values) ((tC (.str k), t) :: trs) (k :: ks) (mLCons md ml) :=
  ⟨pps_cons pe_str hv.pe hr.pp, fun dr Hi σ ρ H0 H Q P B R w kk => hv.sn dr Hi σ ρ H0 H _ _ B R w fun v x A0 A1 B1 S1 dv w1 => hr.sn dr Hi σ ρ A0 A1 _ _ B1 (R.step S1) w1 fun kvs xs C0 C1 B2 S2 ek da q =>
    kk ((Sum.inr k, v) :: kvs) (x :: xs) C0 C1 B2 (S1.trans S2) (by rw [List.map_cons, ek]; rfl) (.cons (dv.mono S2.e0) da) q⟩
theorem Step.fin {dr : Option Dr} {H0 H C0 C1 : Hp} (s : Step dr H0 H C0 C1) {p : Addr} {u : HO} (h : H p = none) (h0 : C0 p = none) : Step dr H0 H (upd C0 p u) (upd C1 p u) :=
  ⟨s.e0.trans (same_upd h0), (s.mut h).e1, fun a w k e => by
    by_cases q : a = p
    · subst q; exact .inr h
    · rw [upd_ne q] at e; exact s.nw a w k e⟩
theorem putK_new {k : Key} {v : V} {kvs : List (Key × V)} (h : k ∉ kvs.map (·.1)) : putK kvs k v = kvs ++ [(k, v)] := by
  unfold putK
  rw [if_neg]
  intro q
  obtain ⟨x, hx, e⟩ := List.any_eq_true.mp q
  exact h (by rw [← of_decide_eq_true e]; exact List.mem_map_of_mem hx)
theorem mergeK_new : ∀ (more kvs : List (Key × V)), ((kvs ++ more).map (·.1)).Nodup → mergeK kvs more = kvs ++ more
  | [], kvs, _ => by rw [List.append_nil]; rfl
  | (k, v) :: more, kvs, h => by
    have h1 : k ∉ kvs.map (·.1) := fun q => by
      rw [List.map_append, List.nodup_append] at h
      exact h.2.2 k q k (by simp) rfl
    show mergeK (putK kvs k v) more = _
    rw [putK_new h1, mergeK_new more _ (by rw [List.append_assoc]; exact h), List.append_assoc]
    rfl
def mDisp (ks : List Str) (ml : GML) : GM := fun ρ P => ml ρ fun xs => P (.d (.dic (ks.map Sum.inr) xs))
theorem ge_disp {keys : List (Option Expr)} {values : List Expr} {trs : List (TE × TE)} {ks : List Str} {ml : GML} (h : GPs X pos keys values trs ks ml) (nd : ks.Nodup := by decide) (hall : keys.all (·.isSome) = true := by rfl) (hl : keys.length = values.length := by rfl) (h0 : keys ≠ [] := by simp) (h15 : keys.length ≤ 15 := by decide) (hk : ks.length ≤ 15 := by decide) :
    GE X (.Dict keys values pos) (tDisp trs) (mDisp ks ml) := ⟨pe_disp h.pp hall hl h0 h15, fun dr Hi σ ρ H0 H Q P B R w k p hp => by
  have B1 : Bas dr H0 (upd H p (.dK [])) := B.new hp
  have S1 : Step dr H0 H H0 (upd H p (.dK [])) := .new hp
  have op := B.out hp
  refine h.sn dr Hi σ ρ H0 _ _ _ B1 (R.step S1) w fun kvs xs C0 C1 B2 S2 ek da q => ?_
  have hC : C1 p = some (.dK []) := S2.same upd_same op
  have h0C : C0 p = none := own_kept S2 upd_same (B.ex.free hp) op
  have len : kvs.length = ks.length := by
    have := congrArg List.length ek
    simpa using this
  refine ⟨hC, kvs, rfl, by omega, ?_⟩
  have em : mergeK [] kvs = kvs := by
    rw [mergeK_new _ _ (by
      rw [List.nil_append, ek]
      exact List.Pairwise.map _ (fun _ _ z e => z (Sum.inr.inj e)) nd), List.nil_append]
  rw [em]
  have B3 : Bas dr (upd C0 p (.dK kvs)) (upd C1 p (.dK kvs)) := (B2.upd h0C op (by rw [hC]; trivial)).frz upd_same op
  exact k _ _ _ _ B3 ((S1.trans S2).fin hp h0C) (.d (.dic upd_same ek rfl (da.mono (same_upd h0C)))) q⟩
/-! ### isinstance -/
structure ClsFacts (K : PySem.W.Frag) (C : Addr) : Prop where
  cl : Cls K C
  ha : PySem.W.findIn K (.ref C) "__class__" = some (some (.builtin "object.__class__"))
  hn : PySem.W.specialIn K (.builtin "object.__class__") "__get__" = some (some (.builtin "getset_descriptor.__get__"))
  htk : PySem.W.takesIn K (.builtin "object.__class__") = some true
  hm : PySem.W.mroIn K C (.type "object") = some true
def tyZ : Z → Option Value
  | .d .non => some (.type "NoneType")
  | .d (.bl _) => some (.type "bool")
  | .d (.int _) => some (.type "int")
  | .d (.str _) => some (.type "str")
  | .d (.lst _) => some (.type "list")
  | .d (.tup _) => some (.type "tuple")
  | .d (.dic _ _) => some (.type "dict")
  | .d (.obj C _ _) => some (.ref C)
  | .d (.dit _ _) => some (.type "dict")
  | .bor false _ => some (.type "list")
  | .bor true _ => some (.type "tuple")
  | .own _ => some (.type "list")
  | .drw => none
theorem Zv.ty {K : PySem.W.Frag} {dr : Option Dr} {Hs H0 H : Hp} {v : V} {z : Z} {u : Value} (B : Bas dr H0 H) (h : Zv dr Hs H0 H v z) (e : tyZ z = some u) (hC : ∀ C, u = .ref C → ClsFacts K C) : TyX K H v u := by
  refine .base ?_
  cases h with
  | d d1 =>
    cases d1 with
    | non => cases e; exact .non
    | bl c => cases e; exact .bl c
    | int i => cases e; exact .int i
    | str i => cases e; exact .str i
    | lst hp da => cases e; exact .lst (B.ex _ _ hp)
    | tup hp da => cases e; exact .tup (B.ex _ _ hp)
    | dic hp _ _ _ => cases e; exact .dK (B.ex _ _ hp)
    | obj hp _ _ _ => cases e; obtain ⟨a, b, c, d, f⟩ := hC _ rfl; exact .ins (B.ex _ _ hp) a b c d f
    | dit hp _ _ _ => cases e; exact .dT (B.ex _ _ hp)
  | @bor t p vs xs hp da =>
    cases t with
    | false => cases e; exact .lst (hide_some hp).1
    | true => cases e; exact .tup (hide_some hp).1
  | own hp da => cases e; exact .lst hp
  | drw => cases e
/-- isinstance(e, c), c one class -/
def mIsi (K : PySem.W.Frag) (c : Value) (m : GM) : GM := fun ρ P => m ρ fun z => ∃ u b, tyZ z = some u ∧ (∀ C, u = .ref C → ClsFacts K C) ∧ PySem.W.kitOne K u c = some b ∧ P (.d (.bl b))
theorem ge_isi {vc : V} {c : Value} {p2 : Pos} {xc : Expr} (kc : ClsV vc c) (hg : Gl X "isinstance") (hm : X.mg "isinstance" = none) (he : GE X e t m) (hc : PE X xc (tC vc)) (n1 : starEach [e, xc] X.env = (false, eval e X.env) :: starEach [xc] X.env := by rfl) (n2 : starEach [xc] X.env = (false, eval xc X.env) :: starEach [] X.env := by rfl) (hpl : (backTo pos (starEach [xc] X.env)).any (·.1) = false := by rfl) :
    GE X (.Call (.Name "isinstance" p2) [e, xc] [] pos) (tCB (rIsi X.K) (tCons t (tCons (tC vc) tNil))) (mIsi X.K c m) := ⟨pe_callB call_isi hg hm (by decide +kernel) (pa_cons he.pe (pa_cons hc pa_nil n2) n1) (by decide) (by decide) n1 hpl, fun dr Hi σ ρ H0 H Q P B R w k =>
  he.sn dr Hi σ ρ H0 H _ _ B R w fun v z A0 A1 B1 S1 zv ⟨u, b, e1, e2, e3, q⟩ => ⟨v, vc, u, c, b, rfl, kc, zv.ty B1 e1 e2, e3, k _ _ A0 A1 B1 S1 (.d (.bl b)) q⟩⟩
/-- a built-in type's name -/
theorem pe_bty {T : String} {x : Str} (hg : Gl X x) (hm : X.mg x = none) (hv : bootBuiltins x = some (.type T)) (hn : x ≠ "__name__" := by decide) (hdb : (x == ("__debug__" : Str)) = false := by decide) : PE X (.Name x pos) (tC (.ty T)) :=
  ⟨fun pins s σ H Q I h => ld_blt I hg hm hv ⟨.ty T, H, I, rfl, h⟩ hn hdb⟩
/-- isinstance(e, (S, T)) of two built-in types -/
def mIsi2 (K : PySem.W.Frag) (S T : String) (m : GM) : GM := fun ρ P => m ρ fun z => ∃ u b, tyZ z = some u ∧ (∀ C, u = .ref C → ClsFacts K C) ∧ PySem.W.kitAny K u [.type S, .type T] = some b ∧ P (.d (.bl b))
theorem ge_isi2 {S T : String} {p2 p3 : Pos} {x1 : Nat} {xs xt : Expr} (hg : Gl X "isinstance") (hm : X.mg "isinstance" = none) (he : GE X e t m) (hS : PE X xs (tC (.ty S))) (hT : PE X xt (tC (.ty T))) (n1 : starEach [e, .Tuple [xs, xt] x1 p3] X.env = (false, eval e X.env) :: starEach [.Tuple [xs, xt] x1 p3] X.env := by rfl)
    (n3 : starEach [xs, xt] X.env = (false, eval xs X.env) :: starEach [xt] X.env := by rfl) (n4 : starEach [xt] X.env = (false, eval xt X.env) :: starEach [] X.env := by rfl) (hpl : (backTo pos (starEach [.Tuple [xs, xt] x1 p3] X.env)).any (·.1) = false := by rfl) :
    GE X (.Call (.Name "isinstance" p2) [e, .Tuple [xs, xt] x1 p3] [] pos) (tCB (rIsiT X.K) (tCons t (tCons (tTup (tCons (tC (.ty S)) (tCons (tC (.ty T)) tNil))) tNil))) (mIsi2 X.K S T m) := ⟨pe_callB call_isiT hg hm (by decide +kernel) (pa_cons he.pe (pa_cons (pe_tup (pa_cons hS (pa_cons hT pa_nil n4) n3)) pa_nil rfl) n1) (by decide) (by decide) n1 hpl, fun dr Hi σ ρ H0 H Q P B R w k =>
  he.sn dr Hi σ ρ H0 H _ _ B R w fun v z A0 A1 B1 S1 zv ⟨u, b, e1, e2, e3, q⟩ => ⟨by show 2 ≤ sizeLine; decide, fun p hp => by
    have ty := (zv.step (Step.new (o := .tup [V.ty S, V.ty T]) hp)).ty (K := X.K) (B1.new hp) e1 e2
    exact ⟨v, p, [.ty S, .ty T], u, [.type S, .type T], b, rfl, upd_same, .cons (.ty S) (.cons (.ty T) .nil), ty, e3, k _ _ A0 _ (B1.new hp) (S1.trans (.new hp)) (.d (.bl b)) q⟩⟩⟩
end
end GL
end
section
set_option linter.all false
set_option maxRecDepth 100000
set_option maxHeartbeats 4000000
namespace GL
open PySem L2 PySem.Calls PyProof.Rows
variable [TabCx] [XCx]
section
variable {X : Cx} {x : Str} {e a b o : Expr} {es : List Expr} {t ta tb : TE} {m ma mb : GM} {pos p : Pos} {tl : TA} {mz : GMA} {md : GMD} {k : Nat} {f C : Addr} {fd : FuncData} {ps ks : List Str} {S : Spc} {kws : List Keyword}
/-! ### f(k = e, ..) -/
structure GK (X : Cx) (kws : List Keyword) (t : TA) (m : GMA) : Prop where
  pk : PK X kws t
  sn : SndA X.K t m
theorem gk_nil : GK X [] tNil mANil := ⟨pk_nil, (ga_nil (X := X)).sn⟩
theorem gk_cons {nm : Option Str} {kp : Pos} (h : GE X e t m) (hr : GK X kws tl mz) : GK X (⟨nm, e, kp⟩ :: kws) (tCons t tl) (mACons m mz) := ⟨pk_cons h.pe hr.pk, fun dr Hi σ ρ H0 H Q P B R w k =>
  h.sn dr Hi σ ρ H0 H _ _ B R w fun x z A0 A1 B1 S1 z1 w1 => hr.sn dr Hi σ ρ A0 A1 _ _ B1 (R.step S1) w1 fun xs zs C0 C1 B2 S2 z2 w2 => k (x :: xs) (z :: zs) C0 C1 B2 (S1.trans S2) (.cons (z1.step S2) (z2.from S1)) w2⟩
theorem ZvAll.rev {dr : Option Dr} {Hs H0 H : Hp} {vs : List V} {zs : List Z} (h : ZvAll dr Hs H0 H vs zs) : ZvAll dr Hs H0 H vs.reverse zs.reverse := by
  have app : ∀ {as bs : List V} {xs ys : List Z}, ZvAll dr Hs H0 H as xs → ZvAll dr Hs H0 H bs ys → ZvAll dr Hs H0 H (as ++ bs) (xs ++ ys) := by
    intro as bs xs ys h1 h2
    induction h1 with
    | nil => exact h2
    | cons r _ ih => exact .cons r ih
  induction h with
  | nil => exact .nil
  | cons r _ ih => rw [List.reverse_cons, List.reverse_cons]; exact app ih (.cons r .nil)
theorem Vals.rev {vs : List V} {us : List Value} (h : Vals vs us) : Vals vs.reverse us.reverse := by
  have app : ∀ {as : List V} {xs : List Value} {bs : List V} {ys : List Value}, Vals as xs → Vals bs ys → Vals (as ++ bs) (xs ++ ys) := by
    intro as xs bs ys h1 h2
    induction h1 with
    | nil => exact h2
    | cons r _ ih => exact .cons r ih
  induction h with
  | nil => exact .nil
  | cons r _ ih => rw [List.reverse_cons, List.reverse_cons]; exact app ih (.cons r .nil)
/-- f(k1 = e1, ..) of a def whose parameters stand in the other order -/
theorem pe_callR {sp : Sp} (F : FnOk X.prog X.w X.K X.mg X.base CX0 k f fd ps sp) (hr : Room k X.A) (hg : Gl X x) (hm : X.mg x = some (.ref f)) (hk : PySem.W.keepIn X.K (.ref f) = true) (hb : ∀ us : List Value, us.length = ps.length → bindArgs fd ⟨[], ks.zip us.reverse⟩ = pure (ps.zip us))
    (hkw : PK X kws tl) (hall : (backToKw pos (keywordEach kws X.env)).all (·.1.isSome) = true := by rfl) (hks : (backToKw pos (keywordEach kws X.env)).filterMap (·.1) = ks := by rfl)
    (hdb : (x == ("__debug__" : Str)) = false := by decide) (hpl : ((backTo pos (starEach [] X.env)).any (·.1) || (backToKw pos (keywordEach kws X.env)).any (·.1.isNone)) = false := by rfl) :
    PE X (.Call (.Name x p) [] kws pos) (fun σ H Q => tl σ H fun zs H2 => sp zs.reverse H2 Q E0) := by
  refine ⟨fun pins s σ H Q I h => ?_⟩
  refine wpAny_Call_Name_kw (ld_glob I hg hm ?_ hdb)
  refine PySem.W.callWith_KW0 (h₀ := X.base) I.ok.mod.kin hk hall (thn (hkw.run pos pins s σ H _ I h) fun ws s2 ⟨zs, H2, I2, rz, q2⟩ => ⟨I2.kIn, ?_⟩) hpl
  rw [hks]
  have r2 := Vals.rev rz
  have hl : ws.reverse.length = ps.length := by rw [← r2.length]; exact F.len _ _ _ _ q2
  have hbind : BindsTo s2 fd ⟨[], ks.zip ws⟩ (ps.zip ws.reverse) := .of_eq (by have := hb ws.reverse hl; rwa [List.reverse_reverse] at this)
  refine wpAny_call (codeAny_mono (F.run X.A X.stack s2 H2 ⟨[], ks.zip ws⟩ ws.reverse zs.reverse Q E0 hr I2.env0 hbind r2 q2) fun r s' hq => ?_)
  rcases r with e | (_ | _ | _ | u)
  · exact False.elim hq
  · exact False.elim hq
  · exact False.elim hq
  · exact False.elim hq
  · exact I2.after hq
def mCallR (S : Spc) (m : GMA) : GM := fun ρ P => m ρ fun zs => S (zs.map Z.arg).reverse P
theorem ge_callR (F : FnOk X.prog X.w X.K X.mg X.base CX0 k f fd ps (GSp S)) (hr : Room k X.A) (hg : Gl X x) (hm : X.mg x = some (.ref f)) (hk : PySem.W.keepIn X.K (.ref f) = true) (hb : ∀ us : List Value, us.length = ps.length → bindArgs fd ⟨[], ks.zip us.reverse⟩ = pure (ps.zip us))
    (hkw : GK X kws tl mz) (hall : (backToKw pos (keywordEach kws X.env)).all (·.1.isSome) = true := by rfl) (hks : (backToKw pos (keywordEach kws X.env)).filterMap (·.1) = ks := by rfl)
    (hdb : (x == ("__debug__" : Str)) = false := by decide) (hpl : ((backTo pos (starEach [] X.env)).any (·.1) || (backToKw pos (keywordEach kws X.env)).any (·.1.isNone)) = false := by rfl) :
    GE X (.Call (.Name x p) [] kws pos) (fun σ H Q => tl σ H fun zs H2 => GSp S zs.reverse H2 Q E0) (mCallR S mz) := ⟨pe_callR F hr hg hm hk hb hkw.pk hall hks hdb hpl, fun dr Hi σ ρ H0 H Q P B R w kk =>
  hkw.sn dr Hi σ ρ H0 H _ _ B R w fun vs zs A0 A1 B1 S1 z1 w1 => by
    have z2 := (z1.rev).arg (Hs' := A1)
    rw [List.map_reverse] at z2
    exact ⟨dr, A0, (zs.map Z.arg).reverse, P, B1, z2, w1, fun v z C0 C1 B2 S2 z3 q => kk v z C0 C1 B2 (S1.trans S2) (z3.from S1) q⟩⟩
/-! ### min of three numbers, abs, powers -/
def fMin3 : List Z → (Z → Prop) → Prop := fun zs P => ∃ i j l, zs = [.d (.int i), .d (.int j), .d (.int l)] ∧ P (.d (.int (min (min i j) l)))
theorem cs_min3 : CallS (rNuC3 nuMin3) fMin3 := fun dr Hs H0 H xs zs Q P B h ⟨i, j, l, e, p⟩ k => by
  subst e
  cases h with
  | cons h1 h =>
    cases h with
    | cons h2 h =>
      cases h with
      | cons h3 h =>
        cases h
        cases h1 with
        | d d1 => cases h2 with
          | d d2 => cases h3 with
            | d d3 =>
              cases d1; cases d2; cases d3
              refine ⟨.int i, .int j, .int l, .int (min (min i j) l), rfl, ?_, k _ _ H0 H B .refl (.d (.int _)) p⟩
              have lt : ∀ x y : Int, nuLt (.int x) (.int y) = some (decide (x < y)) := fun x y => rfl
              unfold nuMin3 nuMin2
              rw [lt]
              by_cases c : j < i
              · rw [decide_eq_true c]
                show nuMin2 (.int j) (.int l) = _
                unfold nuMin2
                rw [lt]
                by_cases d : l < j
                · rw [decide_eq_true d]
                  show some (V.int l) = _
                  congr 2; omega
                · rw [decide_eq_false d]
                  show some (V.int j) = _
                  congr 2; omega
              · rw [decide_eq_false c]
                show nuMin2 (.int i) (.int l) = _
                unfold nuMin2
                rw [lt]
                by_cases d : l < i
                · rw [decide_eq_true d]
                  show some (V.int l) = _
                  congr 2; omega
                · rw [decide_eq_false d]
                  show some (V.int i) = _
                  congr 2; omega
end
/-! ### a constructor's promise -/
section
variable {P : Program} {w : World} {K : PySem.W.Frag} {mg : Str → Option Value} {base : Heap}
def startM (N : List Str) (a C : Addr) (zs : List Z) : Env := some (.mk a C [] []) :: startG N.tail zs
omit [XCx] in
/-- __init__: the instance under way in slot 0 -/
theorem gmk {x qual : Str} {st : Stmt} {f C : Addr} {fd : FuncData} {N ps : List Str} {k : Nat} {S : Spc} {m : GMS} (F : Fun K x qual st f fd) (sc : FnScope N ps (defScope st)) (hN : N ≠ []) (len : ∀ zs P, S zs P → zs.length + 1 = ps.length)
    (hbody : ∀ [XCx] (cdv : Value) (A : Around) (outer : List PySem.Env) (s : Shared) (H : Hp) (E : XK), Room k (A.deeper (envOfC qual (defScope st) s.heap.objs.size f cdv)) →
      ∃ t, GSs (cxOf CX0 P w K mg base N qual (defScope st) f cdv A outer s H E).nox (defBody st) t m)
    (read : ∀ a zs P, S zs P → m { nx := fun ρ => ∃ ns xs, ρ[0]? = some (some (.mk a C ns xs)) ∧ P (.d (.obj C ns xs)), rt := fun _ => False } (startM N a C zs)) : FnOk P w K mg base CX0 (k + 1) f fd ps (GMk C S) := by
  letI : XCx := XCx.off
  refine F.ok sc (fun vs H Q E ⟨dr, H0, Hb, zs, P, x, dx, avs, e, _, _, _, _, _, z, s, _⟩ => by subst e; rw [List.length_cons, z.length]; exact len zs P s) fun cdv A outer s H vs Q E hr ⟨dr, H0, Hb, zs, P, x, dx, avs, ev, eH, hx, hdx, ne, B, z, hs, k⟩ => ?_
  obtain ⟨t, ht⟩ := @hbody XCx.off cdv A outer s H E hr
  have ox := B.out hx
  have odx := B.out hdx
  have hx1 : upd Hb dx (.own x) x = none := by rw [upd_ne (Ne.symm ne)]; exact hx
  have B1 : Bas dr H0 (upd Hb dx (.own x)) := B.new hdx
  have S1 : Step dr H0 Hb H0 (upd Hb dx (.own x)) := .new hdx
  have B2 : Bas dr H0 H := by rw [eH]; exact B1.new hx1
  have S2 : Step dr H0 Hb H0 H := by rw [eH]; exact S1.trans (.new hx1)
  obtain ⟨n0, N', rfl⟩ : ∃ n0 N', N = n0 :: N' := by
    cases N with
    | nil => exact absurd rfl hN
    | cons a b => exact ⟨a, b, rfl⟩
  have R0 : Rs K dr Hb H0 Hb (L2.start N' avs) (startG N' zs) := @rs_start _ XCx.off _ _ _ _ _ _ _ z (fun a => a.elim) (fun _ a => a.elim)
  have R : Rs K dr Hb H0 H (L2.start (n0 :: N') vs) (startM (n0 :: N') x C zs) := by
    have es : L2.start (n0 :: N') vs = some (.ref x) :: L2.start N' avs := by
      subst ev
      unfold L2.start
      simp
    rw [es]
    have R1 := R0.step S2
    refine ⟨by show _ + 1 = _ + 1; rw [R1.len]; rfl, fun i g e => ?_, fun i j p xs ys nij e1 e2 e3 => ?_, R1.xs, R1.hx⟩
    · cases i with
      | zero =>
        cases e
        refine ⟨_, rfl, .mk (dx := dx) (fs := []) (by rw [eH]; exact upd_same) rfl rfl .nil (B.ex.free hx) ox hx⟩
      | succ i => exact R1.at_ i g e
    · cases i with
      | zero => cases e1
      | succ i =>
        cases j with
        | zero => cases e2
        | succ j => exact R1.dist i j p xs ys (fun q => nij (by rw [q])) e1 e2 e3
  refine ⟨t, ht.ps, ht.sn dr H0 Hb _ (startM (n0 :: N') x C zs) H0 H { nx := fun ρ => ∃ ns xs, ρ[0]? = some (some (.mk x C ns xs)) ∧ P (.d (.obj C ns xs)), rt := fun _ => False } _ B2 S2 R ⟨fun σ ρ A0 A1 B3 S3 R3 ⟨ns, xs, e, q⟩ => ?_, fun v z A0 A1 B3 S3 zv q => q.elim, fun _ _ _ _ _ _ _ q => q.elim, fun _ _ _ _ _ _ _ q => q.elim, fun _ => B.ex⟩ (read x zs P hs)⟩
  obtain ⟨v, hv, gv⟩ := R3.at_ 0 _ e
  cases gv with
  | @mk _ dx2 _ fs vs _ _ h1 h2 h3 da h0 o hi =>
    have S4 : Step dr H0 Hb (upd A0 x (.ins C dx2 fs)) A1 := S3.frz h0 hx
    exact k (.obj C ns xs) (upd A0 x (.ins C dx2 fs)) A1 (B3.frz h1 o) S4 (.obj upd_same h2 h3 (da.mono (same_upd h0))) q
end
end GL
end
section
set_option linter.all false
set_option maxRecDepth 100000
set_option maxHeartbeats 4000000
namespace GL
open PySem L2 PySem.Calls PyProof.Rows
variable [TabCx] [XCx]
section
variable {X : Cx} {x : Str} {e a b c o : Expr} {es : List Expr} {t ta tb tc : TE} {m ma mb mc : GM} {pos p : Pos} {tl : TA} {mz : GMA} {md : GMD}
/-- a < b < c, as a value -/
theorem ge_chain {op op' : CmpOp} {r r' : R2} {f f' : Z → Z → (Z → Prop) → Prop} (ho : OpR X (compareOp op) r) (ho' : OpR X (compareOp op') r') (hs : OpS r f) (hs' : OpS r' f') (ha : GE X a ta ma) (hb : GE X b tb mb) (hc : GE X c tc mc)
    (hm : lastMarks [op, op'] [b, c] = false := by with_unfolding_all rfl) : GE X (.Compare a [op, op'] [b, c] pos) (tChain r r' ta tb tc) (mChain f f' ma mb mc) := ⟨pe_chain ho ho' ha.pe hb.pe hc.pe hm, fun dr Hi σ ρ H0 H Q P B R w k =>
  ha.sn dr Hi σ ρ H0 H _ _ B R w fun x zx A0 A1 B1 S1 z1 w1 => hb.sn dr Hi σ ρ A0 A1 _ _ B1 (R.step S1) w1 fun y zy C0 C1 B2 S2 z2 w2 =>
    hs dr H A1 C0 C1 x y zx zy _ _ B2 (z1.step S2) z2 w2 fun v z E0 E1 B3 S3 z3 ⟨c1, ec, w3⟩ => by
      subst ec
      cases z3 with
      | d d3 =>
        cases d3
        refine ⟨c1, rfl, ?_⟩
        cases c1 with
        | false =>
          simp only [Bool.false_eq_true, if_false] at w3 ⊢
          exact k _ _ E0 E1 B3 ((S1.trans S2).trans S3) (.d (.bl false)) w3
        | true =>
          simp only [if_true] at w3 ⊢
          refine hc.sn dr Hi σ ρ E0 E1 _ _ B3 (R.step ((S1.trans S2).trans S3)) w3 fun u zu F0 F1 B4 S4 z4 w4 => ?_
          exact hs' dr _ _ F0 F1 y u zy zu _ _ B4 (z2.step (S3.trans S4)) z4 w4 fun v z G0 G1 B5 S5 z5 q => k v z G0 G1 B5 ((((S1.trans S2).trans S3).trans S4).trans S5) (z5.from (((S1.trans S2).trans S3).trans S4)) q⟩
/-- one sign in a text -/
theorem os_inS : OpS rInS (fInS false) := fun dr Hs Hs' H0 H x y zx zy Q P B hx hy ⟨c, z, e1, e2, p⟩ k => by
  subst e1 e2
  cases hx with
  | d d1 => cases hy with
    | d d2 => cases d1; cases d2; exact ⟨c, z, rfl, rfl, k _ _ H0 H B .refl (.d (.bl _)) p⟩
/-- a constant text of the module -/
theorem gglobS {z : Str} {tk : Tok} (hg : Gl X x) (hm : X.mg x = some (.str z tk)) (hd : (x == ("__debug__" : Str)) = false := by decide) : GE X (.Name x pos) (tC (.str z)) (mC (.str z)) := gc (pe_glob hg hm ⟨tk, rfl⟩ hd) fun _ => .str z
/-- x, y = a, b where a name is a cell: a tuple is laid and unpacked -/
theorem gs_parC (oi oj : Bool) {i j : Nat} {x y : Str} {px py pt : Pos} {kt k2 : Nat} {pt2 : Pos} (hc : X.calm = true) (hN : X.N.Nodup) (hi : X.N[i]? = some x) (hj : X.N[j]? = some y) (hx : Loc X.env.scope x) (hy : Loc X.env.scope y) (ha : GE X a ta ma) (hb : GE X b tb mb)
    (hs : swapsWithSole [.Tuple [.Name x px, .Name y py] kt pt] (.Tuple [a, b] k2 pt2) pos.line X.env = pure false := by rfl) (hw : swappedStores [.Tuple [.Name x px, .Name y py] kt pt] (.Tuple [a, b] k2 pt2) X.env = pure none := by rfl) (n1 : starEach [a, b] X.env = (false, eval a X.env) :: starEach [b] X.env := by rfl) (n2 : starEach [b] X.env = (false, eval b X.env) :: starEach [] X.env := by rfl)
    (h1 : (assignEach [.Tuple [.Name x px, .Name y py] kt pt] X.env).map (·.2) = [assign (.Tuple [.Name x px, .Name y py] kt pt) X.env] := by rfl) (h2 : (assignEach [.Name x px, .Name y py] X.env).length = 2 := by rfl) (h3 : (assignEach [.Name x px, .Name y py] X.env).findIdx? (·.1) = none := by rfl)
    (h4 : (assignEach [.Name x px, .Name y py] X.env).map (·.2) = assign (.Name x px) X.env :: (assignEach [.Name y py] X.env).map (·.2) := by rfl) (h5 : (assignEach [.Name y py] X.env).map (·.2) = assign (.Name y py) X.env :: (assignEach [] X.env).map (·.2) := by rfl)
    (f1 : X.fn x = true ∨ X.env.scope.names.lookup x = some .local := by first | exact .inl rfl | exact .inr rfl | assumption) (f2 : X.fn y = true ∨ X.env.scope.names.lookup y = some .local := by first | exact .inl rfl | exact .inr rfl | assumption) :
    GS X (.Assign [.Tuple [.Name x px, .Name y py] kt pt] (.Tuple [a, b] k2 pt2) pos) (tAsg (tTup (tCons ta (tCons tb tNil))) (gTup X.K 2 (gCons (gName i) (gCons (gName j) gNil)))) (mPar2 i j oi oj ma mb) :=
  ⟨ps_asg (pe_tup (pa_cons ha.pe (pa_cons hb.pe pa_nil n2) n1)) (pg_tup hc (pgs_cons (pg_name hN hi hx f1) (pgs_cons (pg_name hN hj hy f2) pgs_nil h5) h4) h2 h3) hs hw h1, fun dr H0i Hi σ ρ H0 H D E B S R L w =>
    snd_sto oi ha.sn B R w fun v g A0 A1 B1 S1 g1 w1 => snd_sto oj hb.sn B1 (R.step S1) w1 fun u h C0 C1 B2 S2 g2 w2 => ⟨by show 2 ≤ sizeLine; decide, fun q hq => by
      have S3 : Step dr C0 C1 C0 (upd C1 q (.tup [v, u])) := .new hq
      have B3 : Bas dr C0 (upd C1 q (.tup [v, u])) := B2.new hq
      refine ⟨q, [v, u], rfl, .of upd_same, rfl, v, [u], rfl, u, [], rfl, rfl, L.nx _ _ C0 _ B3 (((S.trans S1).trans S2).trans S3) ?_ w2⟩
      have R1 : Rs X.K dr Hi A0 A1 (σ.set i (some v)) (ρ.set i (some g)) := R.put S1 i g1 fun p o n => S.free n o
      exact (R1.put S2 j g2 fun p o n => (S.trans S1).free n o).step S3⟩⟩
end
/-! ### defs as the head tells them -/
abbrev FnP (K : PySem.W.Frag) (x qual : Str) (st : Stmt) (f : Addr) (fd : FuncData) : Prop := FunD K x qual (defArgs st) (defBody st) (defScope st) [] [] f fd
section
variable {P : Program} {w : World} {K : PySem.W.Frag} {mg : Str → Option Value} {base : Heap}
theorem FnP.dfl {x qual : Str} {st : Stmt} {f : Addr} {fd : FuncData} (F : FnP K x qual st f fd) : Fun K x qual st f fd := by
  obtain ⟨⟨oc, od, dV, kV, doc, pm, an, cdv, ct, osl, e, lk, cd, dv, _⟩, kp⟩ := F
  rcases dv with ⟨_, rfl⟩ | ⟨h, _⟩
  · exact ⟨⟨oc, od, kV, doc, pm, an, cdv, ct, osl, e, lk, cd⟩, kp⟩
  · exact absurd rfl h
end
end GL
end
section
set_option linter.all false
set_option maxRecDepth 100000
set_option maxHeartbeats 4000000
namespace GL
open PySem L2 PySem.Calls PyProof.Rows
variable [TabCx] [XCx]
/-! ### what is known of a def that is called -/
structure Df (P : Program) (w : World) (K : PySem.W.Frag) (mg : Str → Option Value) (base : Heap) (k : Nat) (x : Str) (ps : List Str) (S : Spc) : Prop where
  ex : ∃ fd, FnOk P w K mg base CX0 k (He.ga K x) fd ps (GSp S) ∧ Binds K fd ps []
  kp : PySem.W.keepIn K (.ref (He.ga K x)) = true
  mg : mg x = some (.ref (He.ga K x))
structure DfG (P : Program) (w : World) (K : PySem.W.Frag) (mg : Str → Option Value) (base : Heap) (k : Nat) (x : Str) (ps : List Str) (S : Spc) : Prop where
  ex : ∃ fd, FnG P w K mg base k (He.ga K x) fd ps (GSp S) ∧ Binds K fd ps []
  kp : PySem.W.keepIn K (.ref (He.ga K x)) = true
  mg : mg x = some (.ref (He.ga K x))
/-- called by keywords alone, the parameters in the other order -/
structure DfR (P : Program) (w : World) (K : PySem.W.Frag) (mg : Str → Option Value) (base : Heap) (k : Nat) (x : Str) (ps ks : List Str) (S : Spc) : Prop where
  ex : ∃ fd, FnOk P w K mg base CX0 k (He.ga K x) fd ps (GSp S) ∧ ∀ us : List Value, us.length = ps.length → bindArgs fd ⟨[], ks.zip us.reverse⟩ = pure (ps.zip us)
  kp : PySem.W.keepIn K (.ref (He.ga K x)) = true
  mg : mg x = some (.ref (He.ga K x))
structure DfM (P : Program) (w : World) (K : PySem.W.Frag) (mg : Str → Option Value) (base : Heap) (k : Nat) (C : Addr) (nm : Str) (ps : List Str) (S : Spc) : Prop where
  ex : ∃ f fd, FnOk P w K mg base CX0 k f fd ps (GSp S) ∧ Binds K fd ps [] ∧ Meth K C nm f
  cl : Cls K C
structure DfP (P : Program) (w : World) (K : PySem.W.Frag) (mg : Str → Option Value) (base : Heap) (k : Nat) (C : Addr) (nm : Str) (S : Spc) : Prop where
  ex : ∃ q f fd ps, FnOk P w K mg base CX0 k f fd ps (GSp S) ∧ Binds K fd ps [] ∧ PropOf K C nm q f
  cl : Cls K C
structure DfC (P : Program) (w : World) (K : PySem.W.Frag) (mg : Str → Option Value) (base : Heap) (k : Nat) (x : Str) (C : Addr) (ps : List Str) (S : Spc) : Prop where
  ex : ∃ f fd, FnOk P w K mg base CX0 k f fd ps (GMk C S) ∧ Binds K fd ps [] ∧ Mk K C f
  mg : mg x = some (.ref C)
section
variable {X : Cx} {x nm : Str} {e o : Expr} {es : List Expr} {tl : TA} {mz : GMA} {ta : TE} {md : GMD} {p pos apos : Pos} {S : Spc} {k : Nat} {ps ks : List Str} {kws : List Keyword} {C : Addr}
theorem ge_callD (D : Df X.prog X.w X.K X.mg X.base k x ps S) (hr : Room k X.A) (hg : Gl X x) (ha : GA X (e :: es) tl mz) (hdb : (x == ("__debug__" : Str)) = false := by decide) (he : starEach (e :: es) X.env = (false, eval e X.env) :: starEach es X.env := by rfl) (hpl : (backTo pos (starEach es X.env)).any (·.1) = false := by rfl) :
    GE X (.Call (.Name x p) (e :: es) [] pos) (tCall (GSp S) [] E0 tl) (mCall S mz) := by
  obtain ⟨fd, F, b⟩ := D.ex
  exact ge_call F hr hg D.mg D.kp b ha fun pa => pe_call F hr hg D.mg D.kp b .nil pass0 pa hdb he hpl
theorem ge_callDG (D : DfG X.prog X.w X.K X.mg X.base k x ps S) (hr : Room k X.A) (gu : X.A.guards = some []) (hg : Gl X x) (ha : GA X (e :: es) tl mz) (hdb : (x == ("__debug__" : Str)) = false := by decide) (he : starEach (e :: es) X.env = (false, eval e X.env) :: starEach es X.env := by rfl) (hpl : (backTo pos (starEach es X.env)).any (·.1) = false := by rfl) :
    GE X (.Call (.Name x p) (e :: es) [] pos) (tCall (GSp S) [] E0 tl) (mCall S mz) := by
  obtain ⟨fd, F, b⟩ := D.ex
  exact ge_callG F hr gu hg D.mg D.kp b ha he hpl hdb
theorem ge_callDR (D : DfR X.prog X.w X.K X.mg X.base k x ps ks S) (hr : Room k X.A) (hg : Gl X x) (ha : GK X kws tl mz) (hall : (backToKw pos (keywordEach kws X.env)).all (·.1.isSome) = true := by rfl) (hks : (backToKw pos (keywordEach kws X.env)).filterMap (·.1) = ks := by rfl)
    (hdb : (x == ("__debug__" : Str)) = false := by decide) (hpl : ((backTo pos (starEach [] X.env)).any (·.1) || (backToKw pos (keywordEach kws X.env)).any (·.1.isNone)) = false := by rfl) :
    GE X (.Call (.Name x p) [] kws pos) (fun σ H Q => tl σ H fun zs H2 => GSp S zs.reverse H2 Q E0) (mCallR S mz) := by
  obtain ⟨fd, F, b⟩ := D.ex
  exact ge_callR F hr hg D.mg D.kp b ha hall hks hdb hpl
theorem ge_methD {pl : Sem Bool} (D : DfM X.prog X.w X.K X.mg X.base k C nm ps S) (hr : Room k X.A) (ho : GD X o ta md) (ha : GA X (e :: es) tl mz) (hst : starEach (e :: es) X.env = (false, eval e X.env) :: starEach es X.env := by rfl) (hpl : (backTo pos (starEach es X.env)).any (·.1) = false := by rfl)
    (ht : eval (.Call (.Attribute o nm apos) (e :: es) [] pos) X.env = (do
      let ov ← eval o X.env
      standAt apos.atName
      let (f, first) ← holding [ov] (getMethod ov nm pl)
      callWith pos f first (backTo pos (starEach (e :: es) X.env)) (backToKw pos (keywordEach [] X.env))) := by rfl) :
    GE X (.Call (.Attribute o nm apos) (e :: es) [] pos) (tMeth C nm (GSp S) [] E0 ta tl) (mMeth C nm S md mz) := by
  obtain ⟨f, fd, F, b, M⟩ := D.ex
  exact ge_meth ho ha fun po pa => pe_meth po D.cl M F hr b .nil pass0 pa hst hpl ht
theorem ge_propD (D : DfP X.prog X.w X.K X.mg X.base k C nm S) (hr : Room (k + 1) X.A) (ho : GD X o ta md) (hab : attributeBase o nm X.env (eval o X.env) = eval o X.env := by rfl) : GE X (.Attribute o nm pos) (tProp C (GSp S) [] E0 ta) (mProp C S md) := by
  obtain ⟨q, f, fd, ps, F, b, M⟩ := D.ex
  exact ge_prop ho fun po => pe_prop po D.cl M F hr b .nil pass0 hab
theorem ge_makeD (D : DfC X.prog X.w X.K X.mg X.base k x C ps S) (hr : Room (k + 1) X.A) (hg : Gl X x) (ha : GA X (e :: es) tl mz) (hdb : (x == ("__debug__" : Str)) = false := by decide) (he : starEach (e :: es) X.env = (false, eval e X.env) :: starEach es X.env := by rfl) (hpl : (backTo pos (starEach es X.env)).any (·.1) = false := by rfl) :
    GE X (.Call (.Name x p) (e :: es) [] pos) (tMake C (GMk C S) [] E0 tl) (mCall S mz) := by
  obtain ⟨f, fd, F, b, M⟩ := D.ex
  exact ge_make ha fun pa => pe_make M F hr hg D.mg b .nil pass0 pa hdb he hpl
end
end GL
namespace GL
open PySem L2 PySem.Calls PyProof.Rows
variable [TabCx] [XCx]
section
variable {X : Cx} {a b : Expr} {ta tb : TE} {ma mb : GM} {pos : Pos}
/-! ### an item of a list, a tuple or a text -/
def rIxAS (K : PySem.W.Frag) : R2 := fun x y H Q => rIxA K x y H Q ∨ rIxS x y H Q
def fIxS : Z → Z → (Z → Prop) → Prop := fun x y P => fIx x y P ∨ ∃ (z : Str) (i : Int) (c : Nat), x = .d (.str z) ∧ y = .d (.int i) ∧ z.length ≤ sizeLine ∧ atI z.cps.toList i = some c ∧ P (.d (.str ⟨#[c]⟩))
theorem os_ixS {K : PySem.W.Frag} : OpS (rIxAS K) fIxS := fun dr Hs Hs' H0 H x y zx zy Q P B hx hy w k => by
  rcases w with w | ⟨z, i, c, e1, e2, hz, at_, p⟩
  · exact .inl (os_ix dr Hs Hs' H0 H x y zx zy Q P B hx hy w k)
  · subst e1 e2
    cases hx with
    | d d1 => cases hy with
      | d d2 => cases d1; cases d2; exact .inr ⟨z, i, c, rfl, rfl, hz, at_, k _ _ H0 H B .refl (.d (.str _)) p⟩
theorem ge_ixS (ha : GE X a ta ma) (hb : GE X b tb mb) (hs : PlainIx b) : GE X (.Subscript a b pos) (tOp (rIxAS X.K) ta tb) (mOp fIxS ma mb) := ⟨pe_ix (ix_A.or ix_str) ha.pe hb.pe hs, snd_op os_ixS ha.sn hb.sn⟩
end
end GL
end
section
set_option linter.all false
set_option maxRecDepth 100000
set_option maxHeartbeats 4000000
namespace GL
open PySem L2 PySem.Calls PyProof.Rows
variable [TabCx] [XCx]
/-! ### numbers -/
abbrev fSub := fI0 fun i j => D.int (i - j)
abbrev fLt := fI0 fun i j => D.bl (decide (i < j))
abbrev fLe := fI0 fun i j => D.bl (decide (i ≤ j))
abbrev fGt := fI0 fun i j => D.bl (decide (j < i))
abbrev fGe := fI0 fun i j => D.bl (decide (j ≤ i))
theorem os_sub : OpS (rI0 fun i j => .int (i - j)) fSub := os_I0 fun _ _ _ => .int _
theorem os_lt : OpS (rI0 fun i j => .bl (decide (i < j))) fLt := os_I0 fun _ _ _ => .bl _
theorem os_le : OpS (rI0 fun i j => .bl (decide (i ≤ j))) fLe := os_I0 fun _ _ _ => .bl _
theorem os_gt : OpS (rI0 fun i j => .bl (decide (j < i))) fGt := os_I0 fun _ _ _ => .bl _
theorem os_ge : OpS (rI0 fun i j => .bl (decide (j ≤ i))) fGe := os_I0 fun _ _ _ => .bl _
section
variable {X : Cx} {e o : Expr} {t to : TE} {pos p1 p2 : Pos} {k : Nat}
/-- -1 -/
theorem ge_neg1 : GE X (.UnaryOp .USub (.Constant (.int 1) k p1) p2) (tUn (rU fun i => .int (-i)) (tC (.int 1))) (mC (.int (-1))) := ⟨pe_un un_neg pe_int, fun dr Hi σ ρ H0 H Q P B R w k => ⟨1, rfl, k _ _ H0 H B .refl (.d (.int (-1))) w⟩⟩
theorem pe_appendG {apos cpos : Pos} (ho : PE X o to) (he : PE X e t) (hbase : attributeBase o "append" X.env (eval o X.env) = eval o X.env := by rfl)
    (hfew : ((backTo cpos (starEach [e] X.env)).all (fun x => !x.1) && (backToKw cpos (keywordEach [] X.env)).all (fun x => x.1.isSome) && decide ([e].length + ([] : List Keyword).length + (if ([] : List Keyword).isEmpty then 0 else 1) < 30)) = true := by rfl)
    (hline : (apos.endLine == cpos.line) = true := by rfl) (hs : starEach [e] X.env = (false, eval e X.env) :: starEach [] X.env := by rfl) : PE X (.Call (.Attribute o "append" apos) [e] [] cpos) (tBM X.K "list" rAppend to (tCons t tNil)) :=
  pe_bm PySem.F.plainAttrs_list PySem.F.slot_list_append PySem.F.type_list_append mt_append ho (pa_cons he pa_nil hs) hbase hfew hline hs rfl
theorem pe_extendG {apos cpos : Pos} (ho : PE X o to) (he : PE X e t) (hbase : attributeBase o "extend" X.env (eval o X.env) = eval o X.env := by rfl)
    (hfew : ((backTo cpos (starEach [e] X.env)).all (fun x => !x.1) && (backToKw cpos (keywordEach [] X.env)).all (fun x => x.1.isSome) && decide ([e].length + ([] : List Keyword).length + (if ([] : List Keyword).isEmpty then 0 else 1) < 30)) = true := by rfl)
    (hline : (apos.endLine == cpos.line) = true := by rfl) (hs : starEach [e] X.env = (false, eval e X.env) :: starEach [] X.env := by rfl) : PE X (.Call (.Attribute o "extend" apos) [e] [] cpos) (tBM X.K "list" rExtend to (tCons t tNil)) :=
  pe_bm PySem.F.plainAttrs_list PySem.F.slot_list_extend PySem.F.type_list_extend mt_extend ho (pa_cons he pa_nil hs) hbase hfew hline hs rfl
end
theorem Room_un65 {k : Nat} {A : Around} (r : Room k A) : A.units + 65 < cLine := by have := r.un; omega
end GL
namespace GL
open PySem L2
/-- a comprehension's block, by one look -/
def blkB (N : List Str) (sc scope : Scope) (own : List (Str × Nat)) : Bool :=
  decide (scope.kind = .function) && (scope.names.all (fun y => decide (scope.names.lookup y.1 = some y.2)) && (own.all (fun p => decide (N[p.2]? = some p.1)) && (scope.names.all (fun y => !decide (y.2 = .free) || decide (sc.names.lookup y.1 = some .cell) || decide (sc.names.lookup y.1 = some .free)) &&
    scope.names.all (fun y => !(decide (y.2 = .local) || decide (y.2 = .cell)) || decide (y.1 ∈ own.map (·.1)) || decide (y.1 ∉ N)))))
theorem blk_by {N : List Str} {sc scope : Scope} {own : List (Str × Nat)} (h : blkB N sc scope own = true) : BlkOk N sc scope own := by
  unfold blkB at h
  simp only [Bool.and_eq_true, Bool.or_eq_true, Bool.not_eq_true', decide_eq_true_eq, decide_eq_false_iff_not, List.all_eq_true] at h
  obtain ⟨h1, h2, h3, h4, h5⟩ := h
  refine ⟨h1, h2, h3, fun y hy e => ?_, fun y hy e => ?_⟩
  · rcases h4 y hy with (z | z) | z
    · exact absurd e z
    · exact .inl z
    · exact .inr z
  · rcases h5 y hy with (z | z) | z
    · rw [Bool.or_eq_false_iff, decide_eq_false_iff_not, decide_eq_false_iff_not] at z
      exact (e.elim z.1 z.2).elim
    · exact .inl z
    · exact .inr z
end GL
namespace GL
open PySem L2
variable [TabCx] [XCx]
section
variable {X : Cx} {a b : Expr} {ta tb : TE} {ma mb : GM} {pos : Pos}
theorem ge_ixG (ha : GE X a ta ma) (hb : GE X b tb mb) (hs : PlainIx b := by intro _ _; rfl) : GE X (.Subscript a b pos) (tOp (rIxA X.K) ta tb) (mOp fIx ma mb) := ge_ix ha hb hs
theorem ge_ixSG (ha : GE X a ta ma) (hb : GE X b tb mb) (hs : PlainIx b := by intro _ _; rfl) : GE X (.Subscript a b pos) (tOp (rIxAS X.K) ta tb) (mOp fIxS ma mb) := ge_ixS ha hb hs
end
end GL
end
section
set_option linter.all false
set_option maxRecDepth 100000
set_option maxHeartbeats 4000000
namespace GL
open PySem L2 PySem.Calls PyProof.Rows
variable [TabCx] [XCx]
/-! ### equality where texts of any signs are met -/
def fEqT (neg : Bool) : Z → Z → (Z → Prop) → Prop := fun x y P => fEq neg x y P ∨ ∃ a b : Str, x = .d (.str a) ∧ y = .d (.str b) ∧ P (.d (.bl (if neg then !decide (a = b) else decide (a = b))))
def rNeT (K : PySem.W.Frag) : R2 := fun x y H Q => rNeD K x y H Q ∨ rNe x y H Q
def rEqT (K : PySem.W.Frag) : R2 := fun x y H Q => rEqD K x y H Q ∨ rEq x y H Q
section
variable {X : Cx}
theorem op_neT (hu : X.A.units + 64 < cLine) : OpR X (compareOp .NotEq) (rNeT X.K) := (op_neD hu).or op_ne
theorem op_eqT (hu : X.A.units + 64 < cLine) : OpR X (compareOp .Eq) (rEqT X.K) := (op_eqD hu).or op_eq
end
theorem dec_V {a b : Str} : decide (V.str a = V.str b) = decide (a = b) := by
  by_cases h : a = b
  · rw [decide_eq_true h, decide_eq_true (by rw [h])]
  · rw [decide_eq_false h, decide_eq_false (fun e => h (by cases e; rfl))]
theorem os_neT {K : PySem.W.Frag} : OpS (rNeT K) (fEqT true) := fun dr Hs Hs' H0 H x y zx zy Q P B hx hy w k => by
  rcases w with w | ⟨a, b, e1, e2, p⟩
  · exact .inl (os_ne dr Hs Hs' H0 H x y zx zy Q P B hx hy w k)
  · subst e1 e2
    cases hx with
    | d d1 => cases hy with
      | d d2 => cases d1; cases d2; exact .inr ⟨rfl, by rw [dec_V]; exact k _ _ H0 H B .refl (.d (.bl _)) p⟩
theorem os_eqT {K : PySem.W.Frag} : OpS (rEqT K) (fEqT false) := fun dr Hs Hs' H0 H x y zx zy Q P B hx hy w k => by
  rcases w with w | ⟨a, b, e1, e2, p⟩
  · exact .inl (os_eq dr Hs Hs' H0 H x y zx zy Q P B hx hy w k)
  · subst e1 e2
    cases hx with
    | d d1 => cases hy with
      | d d2 => cases d1; cases d2; exact .inr ⟨rfl, by rw [dec_V]; exact k _ _ H0 H B .refl (.d (.bl _)) p⟩
section
variable {X : Cx} {e : Expr} {p pos : Pos} {x : Str}
/-- the script's length -/
def mLenScr (i : Nat) : GM := fun ρ P => ∃ ns : List Int, ρ[i]? = some (some (.scr ns)) ∧ P (.d (.int ns.length))
theorem ge_lenScr {i : Nat} (hg : Gl X x) (hm : X.mg x = none) (hv : bootBuiltins x = some (.builtin "len")) (he : PE X e (tVar i)) (hn : x ≠ "__name__" := by decide) (hdb : (x == ("__debug__" : Str)) = false := by decide)
    (hst : starEach [e] X.env = (false, eval e X.env) :: starEach [] X.env := by rfl) (hpl : (backTo pos (starEach [] X.env)).any (·.1) = false := by rfl) : GE X (.Call (.Name x p) [e] [] pos) (tCB (rLenA X.K) (tCons (tVar i) tNil)) (mLenScr i) :=
  ⟨pe_callB cr_lenA hg hm hv (pa_cons he pa_nil hst) hn hdb hst hpl, fun dr Hi σ ρ H0 H Q P B R ⟨ns, h, w⟩ k => by
    obtain ⟨v, hv', gv⟩ := R.at_ i _ h
    cases gv with
    | scr sq =>
      refine ⟨_, hv', .inl ⟨_, ns.map V.int, rfl, .inl (sq H B.ex), ?_⟩⟩
      rw [List.length_map]
      exact k _ _ H0 H B .refl (.d (.int _)) w⟩
end
/-- a value as data, for good -/
def mAs (m : GM) : GM := fun ρ P => m ρ fun z => ∃ x, z.dat = some x ∧ P (.d x)
theorem ge_as {X : Cx} {e : Expr} {t : TE} {m : GM} (h : GE X e t m) : GE X e t (mAs m) := ⟨h.pe, fun dr Hi σ ρ H0 H Q P B R w k => (gd h).sn dr Hi σ ρ H0 H Q _ B R w fun v x A0 A1 B1 S1 dv q => k v _ A0 A1 B1 S1 (.d dv) q⟩
end GL
end
section
set_option linter.all false
set_option maxRecDepth 100000
set_option maxHeartbeats 4000000
/-! GLV: values. -/
namespace GL
open PySem L2 PySem.W PyProof.Rows
variable [TabCx] [XCx]
/-! ### data that can be laid, compared and shown -/
structure Nice (n : Nat) (d : D) : Prop where
  plain : d.plain = true
  lay : d.py.canLay0 = true
  show_ : d.py.showable = true
  dep : d.py.depth ≤ n
  short : d.py.leavesShort 13 = true
theorem Nice.ok {n : Nat} {d : D} (h : Nice n d) (hn : n ≤ 64) : d.ok := ⟨h.plain, by
  unfold SeqAt.shaped
  rw [h.lay, decide_eq_true (Nat.le_trans h.dep hn)]
  rfl⟩
theorem Nice.shows {n : Nat} {d : D} (h : Nice n d) (hn : n ≤ 60) (hb : d.py.bulk ≤ 2 ^ 20) : d.shows := ⟨h.plain, h.show_, h.lay, Nat.le_trans h.dep hn, PyData.shown_fits_bulk (B := 13) (by decide) (by decide) h.short hb⟩
theorem Nice.mono {n m : Nat} {d : D} (h : Nice n d) (hn : n ≤ m) : Nice m d := ⟨h.plain, h.lay, h.show_, Nat.le_trans h.dep hn, h.short⟩
theorem pys_all {p : PyData → Bool} {q : List PyData → Bool} (h0 : q [] = true) (h1 : ∀ x xs, q (x :: xs) = (p x && q xs)) : ∀ {xs : List D}, (∀ x ∈ xs, p x.py = true) → q (D.pys xs) = true
  | [], _ => by simpa [D.pys] using h0
  | x :: xs, h => by
    rw [D.pys, h1, h x List.mem_cons_self, pys_all h0 h1 fun y hy => h y (List.mem_cons_of_mem _ hy)]
    rfl
theorem pys_depth {n : Nat} : ∀ {xs : List D}, (∀ x ∈ xs, x.py.depth ≤ n) → PyData.depthAll (D.pys xs) ≤ n
  | [], _ => by simp [D.pys, PyData.depthAll]
  | x :: xs, h => by
    have h1 := h x List.mem_cons_self
    have h2 := pys_depth fun y hy => h y (List.mem_cons_of_mem x hy)
    simp only [D.pys, PyData.depthAll]
    omega
theorem nice_seq {n : Nat} {xs : List D} (h : ∀ x ∈ xs, Nice n x) : D.plains xs = true ∧ PyData.canLayAll0 (D.pys xs) = true ∧ PyData.showableAll (D.pys xs) = true ∧ PyData.depthAll (D.pys xs) ≤ n ∧ PyData.leavesShortAll 13 (D.pys xs) = true :=
  ⟨by rw [D.plains_eq]; exact List.all_eq_true.mpr fun x hx => (h x hx).plain, pys_all (p := PyData.canLay0) (by simp [PyData.canLayAll0]) (by simp [PyData.canLayAll0]) fun x hx => (h x hx).lay,
    pys_all (p := PyData.showable) (by simp [PyData.showableAll]) (by simp [PyData.showableAll]) fun x hx => (h x hx).show_, pys_depth fun x hx => (h x hx).dep,
    pys_all (p := PyData.leavesShort 13) (by simp [PyData.leavesShortAll]) (by simp [PyData.leavesShortAll]) fun x hx => (h x hx).short⟩
theorem Nice.lst {n : Nat} {xs : List D} (h : ∀ x ∈ xs, Nice n x) : Nice (n + 1) (.lst xs) := by
  obtain ⟨a, b, c, d, e⟩ := nice_seq h
  exact ⟨by simpa [D.plain] using a, by simpa [D.py, PyData.canLay0] using b, by simpa [D.py, PyData.showable] using c, by simp only [D.py, PyData.depth]; omega, by simpa [D.py, PyData.leavesShort] using e⟩
theorem Nice.tup {n : Nat} {xs : List D} (h : ∀ x ∈ xs, Nice n x) : Nice (n + 1) (.tup xs) := by
  obtain ⟨a, b, c, d, e⟩ := nice_seq h
  exact ⟨by simpa [D.plain] using a, by simpa [D.py, PyData.canLay0] using b, by simpa [D.py, PyData.showable] using c, by simp only [D.py, PyData.depth]; omega, by simpa [D.py, PyData.leavesShort] using e⟩
theorem Nice.non : Nice 0 .non := ⟨by simp [D.plain], by simp [D.py, PyData.canLay0], by simp [D.py, PyData.showable], by simp [D.py, PyData.depth], by simp [D.py, PyData.leavesShort]⟩
theorem Nice.bl (b : Bool) : Nice 0 (.bl b) := ⟨by simp [D.plain], by simp [D.py, PyData.canLay0], by simp [D.py, PyData.showable], by simp [D.py, PyData.depth], by simp [D.py, PyData.leavesShort]⟩
theorem Nice.int {i : Int} (h : i.natAbs < 10 ^ 12) : Nice 0 (.int i) := by
  refine ⟨by simp [D.plain], by simp [D.py, PyData.canLay0], ?_, by simp [D.py, PyData.depth], ?_⟩
  · simp only [D.py, PyData.showable, decide_eq_true_eq]
    by_cases z : i.natAbs = 0
    · rw [z]; decide
    · have : i.natAbs.log2 < 1920 := (Nat.log2_lt z).mpr (Nat.lt_of_lt_of_le h (Nat.le_trans (by decide : 10 ^ 12 ≤ 2 ^ 40) (Nat.pow_le_pow_right (by decide) (by decide))))
      exact this
  · simp only [D.py, PyData.leavesShort, decide_eq_true_eq]
    exact PyData.shown_int_le h
/-! ### names -/
def letters : List Nat := ("abcdefghijklmnopqrstuvwxyz" : Str).cps.toList
structure OkN (x : Str) : Prop where
  pos : 1 ≤ x.length
  six : x.length ≤ 6
  az : ∀ c ∈ x.cps.toList, c ∈ letters
theorem letters_lt : ∀ c ∈ letters, c < 128 := by decide +kernel
theorem nice_txt {x : Str} (h : ∀ c ∈ x.cps.toList, c < 128) : Nice 0 (.str x) := by
  refine ⟨by simp [D.plain], ?_, by simp [D.py, PyData.showable], by simp [D.py, PyData.depth], ?_⟩
  · simp only [D.py, PyData.canLay0]
    show x.cps.all (fun c => decide (c < 0x110000)) = true
    rw [← Array.all_toList]
    exact List.all_eq_true.mpr fun c hc => decide_eq_true (Nat.lt_of_lt_of_le (h c hc) (by decide))
  · simp only [D.py, PyData.leavesShort]
    exact List.all_eq_true.mpr fun c hc => decide_eq_true (Nat.lt_of_lt_of_le (h c hc) (by decide))
theorem OkN.nice {x : Str} (h : OkN x) : Nice 0 (.str x) := nice_txt fun c hc => letters_lt c (h.az c hc)
theorem nice_tupS {ys : List Str} (h : ∀ y ∈ ys, OkN y) : Nice 1 (tupS ys) := Nice.tup fun x hx => by
  obtain ⟨y, hy, rfl⟩ := List.mem_map.mp hx
  exact (h y hy).nice
/-- a handing -/
abbrev hD (h : Str × Str) : D := tupS [h.1, h.2]
/-! ### equality of data -/
theorem eqvAll_strs : ∀ xs ys : List Str, PyData.eqvAll (xs.map .str) (ys.map .str) = decide (xs = ys)
  | [], [] => by simp [PyData.eqvAll]
  | [], _ :: _ => by simp [PyData.eqvAll]
  | _ :: _, [] => by simp [PyData.eqvAll]
  | x :: xs, y :: ys => by
    rw [List.map_cons, List.map_cons, PyData.eqvAll, eqvAll_strs xs ys, PyData.eqv]
    by_cases h : x = y
    · subst h; simp
    · simp [h]
theorem pys_strs (xs : List Str) : D.pys (xs.map .str) = xs.map .str := by
  rw [D.pys_eq, List.map_map]
  exact List.map_congr_left fun x _ => by simp [D.py]
theorem tupS_py (xs : List Str) : (tupS xs).py = .tuple (xs.map .str) := by
  show D.py (.tup _) = _
  rw [D.py, pys_strs]
theorem eqv_tupS (xs ys : List Str) : PyData.eqv (tupS xs).py (tupS ys).py = decide (xs = ys) := by
  rw [tupS_py, tupS_py, PyData.eqv, eqvAll_strs]
theorem eqv_str (x y : Str) : PyData.eqv (D.str x).py (D.str y).py = decide (x = y) := by
  simp only [D.py, PyData.eqv]
  by_cases h : x = y
  · subst h; simp
  · simp [h]
theorem eqv_hD (x y : Str × Str) : PyData.eqv (hD x).py (hD y).py = decide (x = y) := by
  rw [eqv_tupS]
  obtain ⟨a, b⟩ := x
  obtain ⟨c, d⟩ := y
  simp
theorem eqv_int (i j : Int) : PyData.eqv (D.int i).py (D.int j).py = decide (i = j) := by
  simp only [D.py, PyData.eqv]
  by_cases h : i = j
  · subst h; simp
  · simp [h]
theorem any_strs (xs : List Str) (y : Str) : ((xs.map D.str).any fun z => PyData.eqv z.py (D.str y).py) = decide (y ∈ xs) := by
  rw [List.any_map]
  by_cases h : y ∈ xs
  · rw [decide_eq_true h, List.any_eq_true]
    exact ⟨y, h, by simp [eqv_str]⟩
  · rw [decide_eq_false h, List.any_eq_false]
    intro x hx
    simp only [Function.comp, eqv_str, decide_eq_true_eq]
    rintro rfl
    exact h hx
theorem any_hDs (xs : List (Str × Str)) (y : Str × Str) : ((xs.map hD).any fun z => PyData.eqv z.py (hD y).py) = decide (y ∈ xs) := by
  rw [List.any_map]
  by_cases h : y ∈ xs
  · rw [decide_eq_true h, List.any_eq_true]
    exact ⟨y, h, by simp [eqv_hD]⟩
  · rw [decide_eq_false h, List.any_eq_false]
    intro x hx
    simp only [Function.comp, eqv_hD, decide_eq_true_eq]
    rintro rfl
    exact h hx
/-! ### order -/
theorem keyToks_str (x : Str) : keyToks (D.str x).py = [.inr x.cps.toList] := by simp [D.py, keyToks]
/-- texts ascending -/
abbrev leS (x y : Str) : Bool := dataLe false D.py (.str x) (.str y)
abbrev leH (x y : Str × Str) : Bool := dataLe false D.py (hD x) (hD y)
abbrev sortN (xs : List Str) : List Str := xs.mergeSort leS
abbrev sortH (xs : List (Str × Str)) : List (Str × Str) := xs.mergeSort leH
theorem map_sortN (xs : List Str) : (xs.map D.str).mergeSort (dataLe false D.py) = (sortN xs).map D.str := (List.map_mergeSort (f := D.str) (r := leS) (s := dataLe false D.py) fun a _ b _ => rfl).symm
theorem map_sortH (xs : List (Str × Str)) : (xs.map hD).mergeSort (dataLe false D.py) = (sortH xs).map hD := (List.map_mergeSort (f := hD) (r := leH) (s := dataLe false D.py) fun a _ b _ => rfl).symm
/-- an order in which equals are the same -/
structure Lin {α : Type} (le : α → α → Bool) : Prop where
  trans : ∀ a b c, le a b = true → le b c = true → le a c = true
  total : ∀ a b, (le a b || le b a) = true
  anti : ∀ a b, le a b = true → le b a = true → a = b
theorem lin_of {α : Type} {k : α → PyData} (inj : ∀ a b, keyToks (k a) = keyToks (k b) → a = b) : Lin (dataLe false k) := by
  have T := sortLe_total (listOrd itemOrd) false fun b => keyToks (k b)
  refine ⟨T.trans, fun a b => Bool.or_eq_true_iff.mpr (T.total a b), fun a b h1 h2 => inj a b ?_⟩
  have h1' : (!(listOrd itemOrd).blt (keyToks (k b)) (keyToks (k a))) = true := h1
  have h2' : (!(listOrd itemOrd).blt (keyToks (k a)) (keyToks (k b))) = true := h2
  rw [Bool.not_eq_true'] at h1' h2'
  exact (listOrd itemOrd).total _ _ h2' h1'
theorem str_inj {x y : Str} (h : x.cps.toList = y.cps.toList) : x = y := str_of_cps h
theorem linS : Lin leS := lin_of (k := fun x : Str => (D.str x).py) fun a b h => by
  rw [keyToks_str, keyToks_str] at h
  exact str_inj (Sum.inr.inj (List.cons.inj h).1)
theorem keyToksAll_strs (ys : List Str) : keyToksAll (ys.map .str) = (ys.flatMap fun y => [.inl 1, .inr y.cps.toList]) ++ [.inl 0] := by
  induction ys with
  | nil => simp [keyToksAll]
  | cons y ys ih => simp [keyToksAll, keyToks, ih]
theorem keyToksAll_inj : ∀ {xs ys : List Str}, keyToksAll (xs.map .str) = keyToksAll (ys.map .str) → xs = ys
  | [], [], _ => rfl
  | [], y :: ys, h => by simp [keyToksAll, keyToks] at h
  | x :: xs, [], h => by simp [keyToksAll, keyToks] at h
  | x :: xs, y :: ys, h => by
    simp only [List.map_cons, keyToksAll, keyToks, List.cons_append, List.nil_append, List.cons.injEq, true_and, Sum.inr.injEq] at h
    rw [str_inj h.1, keyToksAll_inj h.2]
theorem linH : Lin leH := lin_of (k := fun x : Str × Str => (hD x).py) fun a b h => by
  rw [tupS_py, tupS_py, keyToks, keyToks] at h
  have := keyToksAll_inj h
  obtain ⟨a1, a2⟩ := a
  obtain ⟨b1, b2⟩ := b
  simp only [List.cons.injEq, and_true] at this
  rw [this.1, this.2]
theorem Lin.sorted {α : Type} {le : α → α → Bool} (L : Lin le) (xs : List α) : (xs.mergeSort le).Pairwise fun a b => le a b = true := List.pairwise_mergeSort L.trans L.total xs
theorem Lin.perm {α : Type} {le : α → α → Bool} (L : Lin le) {xs ys : List α} (h : xs.Perm ys) : xs.mergeSort le = ys.mergeSort le :=
  List.Perm.eq_of_pairwise (fun a b _ _ => L.anti a b) (L.sorted xs) (L.sorted ys) (((List.mergeSort_perm xs le).trans h).trans (List.mergeSort_perm ys le).symm)
theorem Lin.same {α : Type} {le : α → α → Bool} (L : Lin le) {xs ys : List α} (h : xs.Perm ys) (hs : ys.Pairwise fun a b => le a b = true) : xs.mergeSort le = ys := (L.perm h).trans (List.mergeSort_of_pairwise hs)
end GL
end
section
set_option linter.all false
set_option maxRecDepth 100000
set_option maxHeartbeats 4000000
/-! GL17: the law's draws. -/
namespace GL
open PySem L2 PySem.Calls PyProof.Rows
variable [TabCx] [XCx]
/-! ### the draws' dict -/
theorem n_gr : ("great" : Str) ≠ "rest" := by decide +kernel
theorem k_gr : ¬ (Sum.inr "great" : Key) = (Sum.inr "rest" : Key) := fun e => n_gr (Sum.inr.inj e)
theorem n_gt : ("great" : Str) ≠ "turn" := by decide +kernel
theorem k_gt : ¬ (Sum.inr "great" : Key) = (Sum.inr "turn" : Key) := fun e => n_gt (Sum.inr.inj e)
theorem n_gc : ("great" : Str) ≠ "cells" := by decide +kernel
theorem k_gc : ¬ (Sum.inr "great" : Key) = (Sum.inr "cells" : Key) := fun e => n_gc (Sum.inr.inj e)
theorem n_rt : ("rest" : Str) ≠ "turn" := by decide +kernel
theorem k_rt : ¬ (Sum.inr "rest" : Key) = (Sum.inr "turn" : Key) := fun e => n_rt (Sum.inr.inj e)
theorem n_rc : ("rest" : Str) ≠ "cells" := by decide +kernel
theorem k_rc : ¬ (Sum.inr "rest" : Key) = (Sum.inr "cells" : Key) := fun e => n_rc (Sum.inr.inj e)
theorem n_ct : ("cells" : Str) ≠ "turn" := by decide +kernel
theorem k_ct : ¬ (Sum.inr "cells" : Key) = (Sum.inr "turn" : Key) := fun e => n_ct (Sum.inr.inj e)
section
variable {x : Dr} {r t v : Int}
theorem val_great : valV (drKvs x r t) (Sum.inr "great" : Key) = some (.ref x.g) := valV_pos rfl
theorem val_rest : valV (drKvs x r t) (Sum.inr "rest" : Key) = some (.int r) := by
  unfold drKvs
  rw [valV_neg k_gr, valV_pos rfl]
theorem val_cells : valV (drKvs x r t) (Sum.inr "cells" : Key) = some (.ref x.c) := by
  unfold drKvs
  rw [valV_neg k_gc, valV_neg k_rc, valV_pos rfl]
theorem val_turn : valV (drKvs x r t) (Sum.inr "turn" : Key) = some (.int t) := by
  unfold drKvs
  rw [valV_neg k_gt, valV_neg k_rt, valV_neg k_ct, valV_pos rfl]
theorem put_rest : putK (drKvs x r t) (Sum.inr "rest" : Key) (.int v) = drKvs x v t := by
  unfold putK drKvs
  rw [if_pos (by simp)]
  simp [n_gr, n_rc.symm, n_rt.symm]
theorem put_turn : putK (drKvs x r t) (Sum.inr "turn" : Key) (.int v) = drKvs x r v := by
  unfold putK drKvs
  rw [if_pos (by simp)]
  simp [n_gt, n_rt, n_ct]
end
section
variable {x : Dr} {H0 H : Hp} {p : Addr} {o : HO} {dr : Option Dr}
theorem drw_upd (e : dr = some x) (B : Bas dr H0 H) (hp : p = x.a ∨ p = x.g) (d : DrOk (upd H p o) x) : Bas dr H0 (upd H p o) ∧ Step dr H0 H H0 (upd H p o) := by
  subst e
  obtain ⟨rest, turn, gs, h1, h2, h3⟩ := B.dw x rfl
  have nO : ∀ a, Out (some x) a → a ≠ p := fun a oa q => by
    obtain ⟨q1, q2, q3⟩ := oa.1 x rfl
    rcases hp with e | e
    · exact q1 (q.trans e)
    · exact q2 (q.trans e)
  refine ⟨⟨fun a u h => by rw [upd_ne (nO a (B.fr a u h))]; exact B.ex a u h, fun y hy => by cases hy; exact d, fun t ht => ?_, B.fr⟩, ⟨Same.refl _, fun a u h => by rw [upd_ne (nO a (hide_some h).2)]; exact (hide_some h).1, fun _ _ _ h => .inl h⟩⟩
  refine tabS_upd (B.tb t ht) (fun q => ?_) ?_
  · obtain ⟨ps, q1, _⟩ := B.tb t ht
    rcases hp with e | e
    · rw [← q, e, h1] at q1; cases q1
    · rw [← q, e, h2] at q1; cases q1
  · rcases hp with e | e
    · rw [e, h1]; trivial
    · rw [e, h2]; trivial
end
theorem ne_ag {x : Dr} {H : Hp} {r t : Int} {gs : List V} (h1 : H x.a = some (.dK (drKvs x r t))) (h2 : H x.g = some (.lst gs)) : x.g ≠ x.a := fun e => by rw [e, h1] at h2; cases h2
section
variable {X : Cx} {o e : Expr} {te : TE} {m : GM} {p2 pos pos' : Pos} {i j : Nat} {k : Str}
/-- the draws at slot i: the key's number -/
def mDrI (i : Nat) : GM := fun ρ P => ρ[i]? = some (some .drw) ∧ ∀ r : Int, P (.d (.int r))
theorem ge_drI (hk : k = "rest" ∨ k = "turn") (hu : X.A.units + 1 < cLine) (ho : PE X o (tVar i)) : GE X (.Subscript o (.Constant (.str k) j p2) pos) (tDGet (tVar i) (tC (.str k))) (mDrI i) := ⟨pe_dget hu ho pe_str fun _ _ => rfl, fun dr Hi σ ρ H0 H Q P B R ⟨h, w⟩ kk => by
  obtain ⟨v, hv, gv⟩ := R.at_ i _ h
  cases gv with
  | @drw x e =>
    obtain ⟨rest, turn, gs, h1, h2, h3⟩ := B.dw _ e
    rcases hk with rfl | rfl
    · exact ⟨_, hv, x.a, .int rest, rfl, by rw [← val_rest (x := x) (r := rest) (t := turn)]; exact DGet.k (k := Sum.inr "rest") h1, kk _ _ H0 H B .refl (.d (.int _)) (w rest)⟩
    · exact ⟨_, hv, x.a, .int turn, rfl, by rw [← val_turn (x := x) (r := rest) (t := turn)]; exact DGet.k (k := Sum.inr "turn") h1, kk _ _ H0 H B .refl (.d (.int _)) (w turn)⟩⟩
/-- the draws at slot i: the key's number is set -/
def mDrS (i : Nat) (m : GM) : GMS := fun D ρ => ρ[i]? = some (some .drw) ∧ m ρ fun z => ∃ n, z = .d (.int n) ∧ D.nx ρ
theorem gs_drI (hk : k = "rest" ∨ k = "turn") (hu : X.A.units + 1 < cLine) (ho : PE X o (tVar i)) (he : GE X e te m) (hs : swapsWith e (some (.Subscript o (.Constant (.str k) j p2) pos')) pos.line X.env = pure false := by rfl) :
    GS X (.Assign [.Subscript o (.Constant (.str k) j p2) pos'] e pos) (sDPut (tVar i) (tC (.str k)) te) (mDrS i m) := ⟨ps_dput hu ho pe_str he.pe hs, fun dr H0i Hi σ ρ H0 H D E B S R L ⟨h, w⟩ =>
  he.sn dr Hi σ ρ H0 H _ _ B R w fun v z A0 A1 B1 S1 zv ⟨n, e, q⟩ => by
    subst e
    cases zv with
    | d d1 =>
      cases d1
      obtain ⟨u, hu, gv⟩ := R.at_ i _ h
      cases gv with
      | @drw x e =>
        obtain ⟨rest, turn, gs, h1, h2, h3⟩ := B1.dw _ e
        have ng := ne_ag h1 h2
        have nc : x.c ≠ x.a := fun e => by rw [e, h1] at h3; cases h3
        rcases hk with rfl | rfl
        · refine ⟨_, hu, x.a, _, rfl, DPut.k (k := Sum.inr "rest") h1 (by show 4 < sizeLine; decide), ?_⟩
          rw [put_rest]
          obtain ⟨B2, S2⟩ := drw_upd (p := x.a) (o := .dK (drKvs x n turn)) e B1 (.inl rfl) ⟨n, turn, gs, upd_same, by rw [upd_ne ng]; exact h2, by rw [upd_ne nc]; exact h3⟩
          exact L.nx _ _ A0 _ B2 ((S.trans S1).trans S2) ((R.step S1).step S2) q
        · refine ⟨_, hu, x.a, _, rfl, DPut.k (k := Sum.inr "turn") h1 (by show 4 < sizeLine; decide), ?_⟩
          rw [put_turn]
          obtain ⟨B2, S2⟩ := drw_upd (p := x.a) (o := .dK (drKvs x rest n)) e B1 (.inl rfl) ⟨rest, n, gs, upd_same, by rw [upd_ne ng]; exact h2, by rw [upd_ne nc]; exact h3⟩
          exact L.nx _ _ A0 _ B2 ((S.trans S1).trans S2) ((R.step S1).step S2) q⟩
/-- over the draws' cells -/
def mCells (i : Nat) : GML := fun ρ P => ρ[i]? = some (some .drw) ∧ ∀ cs : List Int, P (cs.map D.int)
theorem gi_cells {tg : Expr} (hu : X.A.units + 1 < cLine) (ho : PE X o (tVar i)) : GI true X tg (.Subscript o (.Constant (.str "cells") j p2) pos) (iSeq X.K (tDGet (tVar i) (tC (.str "cells")))) (mCells i) := ⟨pi_seq (pe_dget hu ho pe_str fun _ _ => rfl), fun dr Hi σ ρ H0 H R P B Rr ⟨h, w⟩ kk => by
  obtain ⟨v, hv, gv⟩ := Rr.at_ i _ h
  cases gv with
  | @drw x e =>
    obtain ⟨rest, turn, gs, h1, h2, h3⟩ := B.dw _ e
    refine ⟨_, hv, x.a, .ref x.c, rfl, by rw [← val_cells (x := x) (r := rest) (t := turn)]; exact DGet.k (k := Sum.inr "cells") h1, x.c, rfl, .inl ⟨⟨_, .of h3⟩, kk _ _ H0 H B .refl (wk_list (vs := x.cs.map V.int) fun C0 C B' _ => ?_) (w x.cs)⟩⟩
    obtain ⟨_, _, _, _, _, q3⟩ := B'.dw _ e
    exact ⟨q3, .ints⟩⟩
/-- over the script -/
def mWalkScr (i : Nat) : GML := fun ρ P => ∃ ns : List Int, ρ[i]? = some (some (.scr ns)) ∧ P (ns.map D.int)
theorem wk_sql {K : PySem.W.Frag} {dr : Option Dr} {ok : Hp → Hp → Prop} {p : Addr} {vs : List V} {xs : List D} (h : ∀ C0 C, Bas dr C0 C → ok C0 C → SqL K C p vs ∧ DvAll C0 vs xs) : Wk (Itl K p) dr ok xs where
  stop := fun C0 C B o => by
    obtain ⟨h1, h2⟩ := h C0 C B o
    exact ⟨vs, h1, by rw [h2.length]; exact Nat.le_refl _⟩
  go := fun i C0 C hi B o => by
    obtain ⟨h1, h2⟩ := h C0 C B o
    have hv : i < vs.length := by rw [h2.length]; exact hi
    exact ⟨vs, vs[i], h1, List.getElem?_eq_getElem hv⟩
  yld := fun i x C0 C v C' hx B o y => by
    obtain ⟨h1, h2⟩ := h C0 C B o
    obtain ⟨e, y⟩ := y
    subst e
    obtain ⟨d, hd, dv⟩ := h2.getV (y vs h1)
    rw [hx] at hd; cases hd
    exact ⟨C0, B, .refl, dv⟩
theorem gi_scr {tg : Expr} (ho : PE X o (tVar i)) : GI true X tg o (iSeq X.K (tVar i)) (mWalkScr i) := ⟨pi_seq ho, fun dr Hi σ ρ H0 H R P B Rr ⟨ns, h, w⟩ kk => by
  obtain ⟨v, hv, gv⟩ := Rr.at_ i _ h
  cases gv with
  | scr sq => exact ⟨_, hv, _, rfl, .inl ⟨⟨_, sq H B.ex⟩, kk _ _ H0 H B .refl (wk_sql (vs := ns.map V.int) fun C0 C B' (o : Same H0 C0) => ⟨sq C (o.trans B'.ex), .ints⟩) w⟩⟩⟩
/-! ### the next of the great ones -/
def mDrPop (i : Nat) : GMS := fun D ρ => ρ[i]? = some (some .drw) ∧ D.nx ρ
theorem dp_ints {K : PySem.W.Frag} {H : Hp} : ∀ {gs : List Int}, DpAll K H (gs.map V.int) (gs.map PyData.int)
  | [] => .nil
  | _ :: _ => .cons (.int _) dp_ints
theorem shaped_ints (gs : List Int) : SeqAt.shaped (.list (gs.map PyData.int)) = true := by
  have h : Nice 1 (.lst (gs.map D.int)) ∨ True := .inr trivial
  have e : PyData.canLayAll0 (gs.map PyData.int) = true := by
    induction gs with
    | nil => simp [PyData.canLayAll0]
    | cons a r ih => simp [PyData.canLayAll0, PyData.canLay0, ih]
  have d : PyData.depthAll (gs.map PyData.int) = 0 := by
    clear e h
    induction gs with
    | nil => simp [PyData.depthAll]
    | cons a r ih => simp [PyData.depthAll, PyData.depth, ih]
  simp [SeqAt.shaped, PyData.canLay0, PyData.depth, e, d]
theorem gs_drPop {c : Expr} {body : List Stmt} (hc : PT X c (tAnd (tTest (tOp (rEqD X.K) (tDGet (tVar i) (tC (.str "rest"))) (tC (.int 0)))) (tTest (tOp (rNeD X.K) (tDGet (tVar i) (tC (.str "great"))) (tLst tNil)))))
    (hb : PSs X body (sDPut (tVar i) (tC (.str "rest")) (tBM X.K "list" rPopAt (tDGet (tVar i) (tC (.str "great"))) (tCons (tC (.int 0)) tNil)))) :
    GS X (.If c body [] pos) (tIfS (tAnd (tTest (tOp (rEqD X.K) (tDGet (tVar i) (tC (.str "rest"))) (tC (.int 0)))) (tTest (tOp (rNeD X.K) (tDGet (tVar i) (tC (.str "great"))) (tLst tNil)))) (sDPut (tVar i) (tC (.str "rest")) (tBM X.K "list" rPopAt (tDGet (tVar i) (tC (.str "great"))) (tCons (tC (.int 0)) tNil))) tNext) (mDrPop i) :=
  ⟨ps_if hc hb pss_nil, fun dr H0i Hi σ ρ H0 H D E B S R L ⟨h, w⟩ => by
  obtain ⟨v, hv, gv⟩ := R.at_ i _ h
  cases gv with
  | @drw x e =>
    obtain ⟨rest, turn, gs, h1, h2, h3⟩ := B.dw _ e
    have stay : E.nx σ H := L.nx σ ρ H0 H B S R w
    refine ⟨_, hv, x.a, .int rest, rfl, by rw [← val_rest (x := x) (r := rest) (t := turn)]; exact DGet.k (k := Sum.inr "rest") h1, ?_⟩
    refine ⟨.int rest, .int 0, .int _, .int _, by simp [SeqAt.shaped, PyData.canLay0, PyData.depth], by simp [SeqAt.shaped, PyData.canLay0, PyData.depth], _, rfl, ?_⟩
    cases PyData.eqv (PyData.int rest) (PyData.int 0) with
    | false => exact stay
    | true =>
      refine ⟨_, hv, x.a, .ref x.g, rfl, by rw [← val_great (x := x) (r := rest) (t := turn)]; exact DGet.k (k := Sum.inr "great") h1, ?_⟩
      refine ⟨(by show 0 ≤ sizeLine; decide), fun p hp => ?_⟩
      have B1 := B.new (o := .lst []) hp
      have S1 := Step.new (dr := dr) (H0 := H0) (o := .lst []) hp
      have ne : ∀ a u, H a = some u → a ≠ p := fun a u q z => by rw [z, hp] at q; cases q
      have h1' : upd H p (.lst []) x.a = some (.dK (drKvs x rest turn)) := by rw [upd_ne (ne _ _ h1)]; exact h1
      have h2' : upd H p (.lst []) x.g = some (.lst (gs.map V.int)) := by rw [upd_ne (ne _ _ h2)]; exact h2
      have h3' : upd H p (.lst []) x.c = some (.lst (x.cs.map V.int)) := by rw [upd_ne (ne _ _ h3)]; exact h3
      refine ⟨.list (gs.map PyData.int), .list [], .lst (.of h2') dp_ints, .lst (.of upd_same) .nil, shaped_ints gs, by simp [SeqAt.shaped, PyData.canLay0, PyData.canLayAll0, PyData.depth, PyData.depthAll], _, rfl, ?_⟩
      cases gs with
      | nil => exact L.nx σ ρ H0 _ B1 (S.trans S1) (R.step S1) w
      | cons g gs =>
        have ng := ne_ag h1' h2'
        have nc : x.c ≠ x.a := fun e => by rw [e, h1'] at h3'; cases h3'
        have key : sDPut (tVar i) (tC (.str "rest")) (tBM X.K "list" rPopAt (tDGet (tVar i) (tC (.str "great"))) (tCons (tC (.int 0)) tNil)) E σ (upd H p (.lst [])) := by
          refine ⟨_, hv, x.a, .ref x.g, rfl, by rw [← val_great (x := x) (r := rest) (t := turn)]; exact DGet.k (k := Sum.inr "great") h1', .inl ⟨rfl, _, .of h2'⟩, ?_⟩
          refine ⟨x.g, _, 0, 0, .int g, rfl, rfl, h2', by decide, by decide, (by unfold seqIndex?; simp), rfl, ?_⟩
          obtain ⟨B2, S2⟩ := drw_upd (p := x.g) (o := .lst (gs.map V.int)) e B1 (.inr rfl) ⟨rest, turn, gs, by rw [upd_ne (Ne.symm ng)]; exact h1', upd_same, by rw [upd_ne (Ne.symm x.ne)]; exact h3'⟩
          have h1'' : upd (upd H p (.lst [])) x.g (.lst (gs.map V.int)) x.a = some (.dK (drKvs x rest turn)) := by rw [upd_ne (Ne.symm ng)]; exact h1'
          have h3'' : upd (upd H p (.lst [])) x.g (.lst (gs.map V.int)) x.c = some (.lst (x.cs.map V.int)) := by rw [upd_ne (Ne.symm x.ne)]; exact h3'
          refine ⟨_, hv, x.a, _, rfl, DPut.k (k := Sum.inr "rest") h1'' (by show 4 < sizeLine; decide), ?_⟩
          rw [put_rest]
          obtain ⟨B3, S3⟩ := drw_upd (p := x.a) (o := .dK (drKvs x g turn)) e B2 (.inl rfl) ⟨g, turn, gs, upd_same, by rw [upd_ne ng]; exact upd_same, by rw [upd_ne nc]; exact h3''⟩
          exact L.nx _ _ H0 _ B3 (((S.trans S1).trans S2).trans S3) (((R.step S1).step S2).step S3) w
        exact key⟩
/-! ### y = [..], a list of one's own -/
theorem gs_setLcO {fr : Bool} {i : Nat} {y : Str} {py spos : Pos} {elt tg iter : Expr} {ifs : List Expr} {scope : Scope} {own : List (Str × Nat)} {wi : TI} {mi : GML} {tG : TG} {g : D → Env → (Env → Prop) → Prop} {is : List Nat} {tt : TT} {mt : GMT} {te : TE} {md : GMD} (hc : X.calm = true) (hN : X.N.Nodup) (hy : X.N[i]? = some y) (hyl : X.env.scope.names.lookup y = some .local)
    (hsw : swapsWith (.ListComp elt [⟨tg, iter, ifs, 0⟩] scope pos) (some (.Name y py)) spos.line X.env = pure true) (hi : GI fr X tg iter wi mi) (ok : BlkOk X.N X.env.scope scope own)
    (hg : ∀ (s : Shared) (H : Hp) (C : Addr) (cl : List (Str × Addr)) (fp : List Addr), GG (X.blk s H scope (compEnvC scope cl C X.env) fp) tg tG g is) (ht : ∀ (s : Shared) (H : Hp) (C : Addr) (cl : List (Str × Addr)) (fp : List Addr), GTs (X.blk s H scope (compEnvC scope cl C X.env) fp) ifs tt mt)
    (he : ∀ (s : Shared) (H : Hp) (C : Addr) (cl : List (Str × Addr)) (fp : List Addr), GD (X.blk s H scope (compEnvC scope cl C X.env) fp) elt te md) (his : ∀ i ∈ is, i ∈ own.map (·.2) := by decide) (hs : ∀ x, foldedSetIterable iter X.env x = pure x := by intro _; rfl) :
    GS X (.Assign [.Name y py] (.ListComp elt [⟨tg, iter, ifs, 0⟩] scope pos) spos) (tAsg (tLc wi tG tt te (own.map (·.2))) (gName i)) (mSetO i (mLc mi g mt md (own.map (·.2)))) :=
  ⟨ps_setLc hc hN hy hyl hsw hi.pi ok (fun s H C cl fp => (hg s H C cl fp).pg) (fun s H C cl fp => (ht s H C cl fp).pt) (fun s H C cl fp => (he s H C cl fp).pe) hs, fun dr H0i Hi σ ρ H0 H D E B S R L w =>
    snd_lc hi.sn (hg X.s_0 X.H_0 0 [] []).sn his (ht X.s_0 X.H_0 0 [] []).sn (he X.s_0 X.H_0 0 [] []).sn dr Hi σ ρ H0 H _ _ B R w fun v z A0 A1 B1 S1 zv ⟨xs, e, q⟩ => by
      subst e
      cases zv with
      | own h k h0 o hs => exact L.nx _ _ A0 A1 B1 (S.trans S1) ((R.step S1).setO (A := H) i h k h0 o (S.free hs o) (R.freshO hs)) q⟩
/-! ### numbers -/
abbrev fMul := fI CMul fun i j => D.int (i * j)
abbrev fFdiv := fI CDiv fun i j => D.int (i / j)
abbrev fMod := fI (fun _ j => 0 < j) fun i j => D.int (i % j)
abbrev fPow := fI CPow fun i j => D.int (i ^ j.toNat)
theorem os_mul : OpS (rI CMul fun i j => .int (i * j)) fMul := os_I fun _ _ _ => .int _
theorem os_fdiv : OpS (rI CDiv fun i j => .int (i / j)) fFdiv := os_I fun _ _ _ => .int _
theorem os_mod : OpS (rI (fun _ j => 0 < j) fun i j => .int (i % j)) fMod := os_I fun _ _ _ => .int _
theorem os_pow : OpS (rI CPow fun i j => .int (i ^ j.toNat)) fPow := os_I fun _ _ _ => .int _
def rAbs : List V → Hp → VK → Prop := fun xs H Q => ∃ i, xs = [.int i] ∧ Q (.int (if i < 0 then -i else i)) H
def rInt1 : List V → Hp → VK → Prop := fun xs H Q => (∃ i, xs = [.int i] ∧ Q (.int i) H) ∨ ∃ k, xs = [.bl k] ∧ Q (.int (if k then 1 else 0)) H
theorem cr_abs : CallR X (.builtin "abs") rAbs := call_abs
theorem cr_int1 : CallR X (.type "int") rInt1 := call_int1
def fAbs : List Z → (Z → Prop) → Prop := fun zs P => ∃ i, zs = [.d (.int i)] ∧ P (.d (.int (if i < 0 then -i else i)))
def fInt1 : List Z → (Z → Prop) → Prop := fun zs P => ∃ i, zs = [.d (.int i)] ∧ P (.d (.int i))
theorem cs_abs : CallS rAbs fAbs := fun dr Hs H0 H xs zs Q P B h ⟨i, e, p⟩ k => by
  subst e
  obtain ⟨v, rfl, h1⟩ := h.one
  cases h1 with
  | d d1 => cases d1; exact ⟨i, rfl, k _ _ H0 H B .refl (.d (.int _)) p⟩
theorem cs_int1 : CallS rInt1 fInt1 := fun dr Hs H0 H xs zs Q P B h ⟨i, e, p⟩ k => by
  subst e
  obtain ⟨v, rfl, h1⟩ := h.one
  cases h1 with
  | d d1 => cases d1; exact .inl ⟨i, rfl, k _ _ H0 H B .refl (.d (.int _)) p⟩
/-! ### found.append(left.pop(e)) -/
theorem pe_popG {ol e : Expr} {to t : TE} {apos cpos : Pos} (ho : PE X ol to) (he : PE X e t) (hbase : attributeBase ol "pop" X.env (eval ol X.env) = eval ol X.env := by rfl)
    (hfew : ((backTo cpos (starEach [e] X.env)).all (fun x => !x.1) && (backToKw cpos (keywordEach [] X.env)).all (fun x => x.1.isSome) && decide ([e].length + ([] : List Keyword).length + (if ([] : List Keyword).isEmpty then 0 else 1) < 30)) = true := by rfl)
    (hline : (apos.endLine == cpos.line) = true := by rfl) (hs : starEach [e] X.env = (false, eval e X.env) :: starEach [] X.env := by rfl) : PE X (.Call (.Attribute ol "pop" apos) [e] [] cpos) (tBM X.K "list" rPopAt to (tCons t tNil)) :=
  pe_bm PySem.F.plainAttrs_list PySem.F.slot_list_pop PySem.F.type_list_pop mt_popAt ho (pa_cons he pa_nil hs) hbase hfew hline hs rfl
def mAppPop (i j : Nat) (m : GM) : GMS := fun D ρ => ∃ xs ys, ρ[i]? = some (some (.own xs)) ∧ ρ[j]? = some (some (.own ys)) ∧ i ≠ j ∧ m ρ fun z => ∃ (k : Nat) (x : GL.D), z = .d (.int k) ∧ k < 2 ^ 62 ∧ ys[k]? = some x ∧ xs.length < sizeLine ∧ D.nx ((ρ.set j (some (.own (ys.eraseIdx k)))).set i (some (.own (xs ++ [x]))))
theorem gs_appPop {i j : Nat} {oa ol : Expr} {n1 n2 : Str} {apos cpos apos2 cpos2 : Pos} (he : GE X e te m) (pe : PE X e te → PE X (.Call (.Attribute oa n1 apos) [.Call (.Attribute ol n2 apos2) [e] [] cpos2] [] cpos) (tBM X.K "list" rAppend (tVar i) (tCons (tBM X.K "list" rPopAt (tVar j) (tCons te tNil)) tNil)))
    (hs : swapsWith (.Call (.Attribute oa n1 apos) [.Call (.Attribute ol n2 apos2) [e] [] cpos2] [] cpos) none pos.line X.env = pure false := by rfl) :
    GS X (.Expr (.Call (.Attribute oa n1 apos) [.Call (.Attribute ol n2 apos2) [e] [] cpos2] [] cpos) pos) (tDrop (tBM X.K "list" rAppend (tVar i) (tCons (tBM X.K "list" rPopAt (tVar j) (tCons te tNil)) tNil))) (mAppPop i j m) := ⟨ps_expr (pe he.pe) hs, fun dr H0i Hi σ ρ H0 H D E B S R L ⟨xs, ys, hi, hj, ne, w⟩ => by
  obtain ⟨v, hv, gv⟩ := R.at_ i _ hi
  obtain ⟨u, hu, gu⟩ := R.at_ j _ hj
  cases gv with
  | @own p vs _ h k h0 o hp =>
    cases gu with
    | @own q us _ h' k' h0' o' hq =>
      have pq : p ≠ q := fun z => R.dist i j p _ _ ne hi hj hv (by rw [hu, z])
      refine ⟨_, hv, .inl ⟨rfl, _, .of h⟩, _, hu, .inl ⟨rfl, _, .of h'⟩, ?_⟩
      refine he.sn dr Hi σ ρ H0 H _ _ B R w fun y z A0 A1 B1 S1 zv ⟨n, x, e, hn, hx, hz, w1⟩ => ?_
      subst e
      cases zv with
      | d d1 =>
        cases d1
        obtain ⟨y, hy, dy⟩ := (k'.mono S1.e0).get hx
        have ln : n < us.length := (List.getElem?_eq_some_iff.mp hy).1
        refine ⟨q, us, n, n, y, rfl, rfl, S1.same h' o', by omega, by omega, ?_, hy, ?_⟩
        · unfold seqIndex?
          have hn0 : ¬ ((n : Int) < 0) := by omega
          simp [hn0, ln]
        · have c0 := own_kept S1 h' h0' o'
          have B2 := B1.upd (o := .lst (us.eraseIdx n)) c0 o' (by rw [S1.same h' o']; trivial)
          have S2 := (S.trans S1).mut (o := .lst (us.eraseIdx n)) hq
          have R2 := (R.step S1).mut hj hu ((k'.mono S1.e0).eraseIdx n)
          have hp2 : upd A1 q (.lst (us.eraseIdx n)) p = some (.lst vs) := by rw [upd_ne pq]; exact S1.same h o
          refine ⟨p, vs, y, rfl, rfl, hp2, by rw [k.length]; exact hz, ?_⟩
          exact L.nx _ _ A0 _ (B2.upd (own_kept S1 h h0 o) o (by rw [hp2]; trivial)) (S2.mut hp) (R2.mut (xs := xs) (by rw [List.getElem?_set_ne (Ne.symm ne)]; exact hi) hv ((k.mono S1.e0).append (.cons dy .nil))) w1⟩
end
/-- a value of a displayed dict that is handed back -/
def retVal (st : Stmt) (i : Nat) : Expr := match st with
  | .Return (some (.Dict _ vs _)) _ => vs.getD i (.Name "" ⟨0, 0, 0, 0⟩)
  | _ => .Name "" ⟨0, 0, 0, 0⟩
end GL
end
section
set_option linter.all false
set_option maxRecDepth 100000
set_option maxHeartbeats 2000000
/-! GL18: the end of a law whose defs make lambdas. -/
namespace GL
open PySem L2 PySem.Calls PyProof.Rows
abbrev noTab : Obj := { cls := .none, data := .fields #[] }
section
variable {P : Program} {w : World} {K : PySem.W.Frag} {mg mb : Str → Option Value}
theorem law_callGT {k : Nat} {fa a : Addr} {T : List (Addr × Addr)} {fd : FuncData} {x : Str} {sp : Sp} {s1 : Shared} {vs : List Value} {ns : List Int} (kin : K.In s1.heap) (glob : s1.heap.Ns mainGlobals mg) (bl : s1.heap.Ns builtinsNs mb) (blb : ∀ x : Str, x ≠ "__name__" → mb x = bootBuiltins x)
    (lim : s1.heap.NoLimit) (gens : s1.gens = #[]) (mt : ∀ t ∈ T, s1.heap.get? t.2 = some noTab) (offK : ∀ t ∈ T, K.lookup t.2 = none) (cod : ∀ t ∈ T, PySem.W.CodeHd s1.heap t.1 t.2)
    (bmod : ∃ (m : Addr) (u : Obj), mg "__builtins__" = some (.ref m) ∧ m ≠ builtinsNs ∧ s1.heap.get? m = some u ∧ u.cls = .type "module" ∧ u.dict = some builtinsNs ∧ u.data = .plain)
    (ha : s1.heap.get? a = some { cls := .type "list", data := .seq vs.toArray }) (hints : IntsAre vs ns) (short : ns.length ≤ sizeLine) (room : Room k callerA)
    (F : ∀ base : Heap, K.In base → base.Ns mainGlobals mg → (∀ t ∈ T, LamX.TabB base mg t.1 t.2) → FnG P w K mg base k fa fd [x] sp) (bnd : ∀ (s : Shared) (u : Value), BindsTo s fd ⟨[u], []⟩ [(x, u)])
    (want : ∀ H : Hp, (∀ t ∈ T, H t.2 = some (.tbl #[]) ∧ a ≠ t.2) → SqL K H a (ns.map V.int) → sp [.ref a] H (fun v _ => v = .bl true) E0) :
    codeAny (model P w) callerA (.call (.ref fa) ⟨[.ref a], []⟩) (fun r s' => r = .ok (.ret (.bool true)) ∧ OldK s1.heap s'.heap ∧ s'.os = s1.os ∧ AllBare s'.gens) s1 := by
  have rel := vals_ints hints
  have il := hints.length
  have tabAt : ∀ b, (∃ t ∈ T, t.2 = b) → s1.heap.get? b = some noTab := by
    rintro b ⟨t, ht, rfl⟩
    exact mt t ht
  have aOut : ¬ ∃ t ∈ T, t.2 = a := fun q => by
    have := (tabAt a q).symm.trans ha
    exact nomatch (show Data.fields #[] = Data.seq vs.toArray _ from congrArg Obj.data (Option.some.inj this))
  have main : ∀ H : Hp, (∀ t ∈ T, H t.2 = some (.tbl #[])) → SqL K H a (ns.map V.int) → HOk P w H s1.heap → (∀ b, H b ≠ none → (∃ t ∈ T, t.2 = b) ∨ (b = a ∧ ∃ ob xs, H b = some (.frz ob (.lst xs)))) → (H a ≠ none → K.lookup a = none) →
      codeAny (model P w) callerA (.call (.ref fa) ⟨[.ref a], []⟩) (fun r s' => r = .ok (.ret (.bool true)) ∧ OldK s1.heap s'.heap ∧ s'.os = s1.os ∧ AllBare s'.gens) s1 := by
    intro H tbs seq hok kinds noK
    -- what is neither the script nor a table is not tracked
    have off : ∀ {b : Addr} {o : Obj}, s1.heap.get? b = some o → (∀ its n, o.data = .seq its n → False) → (o.data = .fields #[] → False) → H b = none := by
      intro b o hb n1 n2
      cases hq : H b with
      | none => rfl
      | some u =>
        rcases kinds b (by rw [hq]; exact fun z => nomatch z) with t | ⟨rfl, _⟩
        · cases (tabAt b t).symm.trans hb
          exact (n2 rfl).elim
        · cases ha.symm.trans hb
          exact (n1 _ _ rfl).elim
    have offD : ∀ {b : Addr} {o : Obj} {es : Array DictEntry} {ep : Nat}, s1.heap.get? b = some o → o.data = .dict es ep → H b = none := fun hb hd =>
      off hb (fun its n z => nomatch (hd.symm.trans z)) fun z => nomatch (hd.symm.trans z)
    have nss : ∀ {b : Addr} {mm : Str → Option Value}, s1.heap.Ns b mm → (hidT s1.heap H).Ns b mm := by
      rintro b mm ⟨o, es, ep, h1, h2, h3⟩
      exact ⟨o, es, ep, hidT_get h1 (offD h1 h2), h2, h3⟩
    have kinB : K.In (hidT s1.heap H) := by
      intro b o hb
      refine hidT_get (kin b o hb) ?_
      cases hq : H b with
      | none => rfl
      | some u =>
        rcases kinds b (by rw [hq]; exact fun z => nomatch z) with ⟨t, ht, rfl⟩ | ⟨rfl, _⟩
        · rw [offK t ht] at hb; cases hb
        · rw [noK (by rw [hq]; exact fun z => nomatch z)] at hb; cases hb
    have modl : Mod K mg (hidT s1.heap H) := by
      obtain ⟨mc, c1, c2⟩ := lim
      exact ⟨kinB, nss glob, ⟨mb, nss bl, blb⟩, ⟨mc, nss c1, c2⟩⟩
    have tabB : ∀ t ∈ T, LamX.TabB (hidT s1.heap H) mg t.1 t.2 := fun t ht => by
      have mtt := mt t ht
      constructor
      · obtain ⟨o, us, file, tf, flags, tg, inF, text, tt, e1, r1, r2, r3, r4⟩ := cod t ht
        refine ⟨o, us, file, tf, flags, tg, inF, text, tt, hidT_get e1 (off e1 (fun its n z => ?_) fun z => ?_), r1, r2, r3, r4⟩
        · exact nomatch (r2.symm.trans z)
        · cases r2.symm.trans z
          simp at r3
      · obtain ⟨m, u, b1, b2, b3, b4, b5, b6⟩ := bmod
        have ng : m ≠ mainGlobals := fun q => by
          obtain ⟨o, es, ep, e, hd, _⟩ := glob
          cases (q ▸ b3).symm.trans e
          exact nomatch (b6.symm.trans hd)
        have np : m ≠ t.2 := fun q => by
          cases (q ▸ b3).symm.trans mtt
          exact nomatch b6
        exact ⟨m, u, b1, b2, ng, np, hidT_get b3 (off b3 (fun its n z => nomatch (b6.symm.trans z)) fun z => nomatch (b6.symm.trans z)), b4, b5, b6⟩
      · intro q
        obtain ⟨o, es, ep, e, hd, _⟩ := glob
        rw [q, mtt] at e
        cases e
        exact nomatch hd
    have env : Env0 P w K mg (hidT s1.heap H) callerA [] s1 H :=
      ⟨rfl, modl, fun _ _ h => of_hidT h, Nat.le_of_eq (hidT_size _ _), trivial, (fun b hb => nomatch (show b ∈ ([] : List Addr) from hb)), hok, AllBare.of_eq gens⟩
    refine codeAny_mono ((F _ kinB (nss glob) tabB).run callerA [] s1 H ⟨[.ref a], []⟩ [.ref a] [.ref a] _ room rfl env (bnd s1 (.ref a)) (.cons rfl .nil) (want H (fun t ht => ⟨tbs t ht, fun e => aOut ⟨t, ht, e.symm⟩⟩) seq)) ?_
    rintro (er | (_ | _ | _ | u)) s' h
    · exact False.elim h
    · exact False.elim h
    · exact False.elim h
    · exact False.elim h
    · obtain ⟨v, H', os, bare, un, hok', rv, q⟩ := h
      have q' : v = .bl true := q
      subst q'
      obtain rfl : u = Value.bool true := rv
      have stays : ∀ b o, (¬ ∃ t ∈ T, t.2 = b) → s1.heap.get? b = some o → s'.heap.get? b = some o := by
        intro b o nt hb
        cases hq : H b with
        | none => exact un.keep b o hb hq (fun z => nomatch (show b ∈ ([] : List Addr) from z)) (fun z => nomatch z)
        | some u =>
          rcases kinds b (by rw [hq]; exact fun z => nomatch z) with t | ⟨_, ob, xs, z⟩
          · exact (nt t).elim
          · obtain ⟨e1, _⟩ := hok b _ z
            obtain ⟨e2, _⟩ := hok' b _ (un.frzs b ob _ z)
            rw [hb] at e1
            cases e1
            exact e2
      have more : ∀ t ∈ T, ∃ xs : Array Value, s'.heap.get? t.2 = some { cls := .none, data := .fields xs } := fun t ht => by
        obtain ⟨xs, z⟩ := un.tbls t.2 #[] (tbs t ht)
        exact ⟨_, hok' t.2 _ z⟩
      refine ⟨rfl, ⟨fun b o hb => ?_, fun b o hb => ?_⟩, os, bare⟩
      · by_cases ht : ∃ t ∈ T, t.2 = b
        · obtain ⟨t, ht, rfl⟩ := ht
          obtain ⟨xs, hx⟩ := more t ht
          cases (mt t ht).symm.trans hb
          exact .inr (.inl ⟨((cod t ht).tab (mt t ht)).isCodeTable, rfl, #[], xs, rfl, by rw [Array.empty_append]; exact hx⟩)
        · exact .inl (stays b o ht hb)
      · by_cases ht : ∃ t ∈ T, t.2 = b
        · obtain ⟨t, ht, rfl⟩ := ht
          obtain ⟨xs, hx⟩ := more t ht
          exact ⟨_, hx⟩
        · exact ⟨o, stays b o ht hb⟩
  -- the heap: the tables, and the script where the module doesn't hold it
  let sc : Option HO := match K.lookup a with
    | some _ => none
    | none => some (.frz { cls := .type "list", data := .seq vs.toArray } (.lst (ns.map V.int)))
  open Classical in
  let H0 : Hp := fun b => if b = a then sc else if ∃ t ∈ T, t.2 = b then some (.tbl #[]) else none
  have atA : H0 a = sc := if_pos rfl
  have atT : ∀ b, (∃ t ∈ T, t.2 = b) → H0 b = some (.tbl #[]) := fun b q => (if_neg (show ¬ b = a from fun e => aOut (e ▸ q))).trans (if_pos q)
  have atO : ∀ b, b ≠ a → (¬ ∃ t ∈ T, t.2 = b) → H0 b = none := fun b n q => (if_neg n).trans (if_neg q)
  cases hk : K.lookup a with
  | some o =>
    have e1 := kin a o hk
    rw [ha] at e1
    cases e1
    have sn : H0 a = none := by rw [atA]; show (match K.lookup a with | some _ => none | none => _) = none; rw [hk]
    refine main H0 (fun t ht => atT _ ⟨t, ht, rfl⟩) (Or.inr ⟨_, vs.toArray, _, hk, rfl, rfl, rfl, by rw [List.size_toArray, il]; exact short, by simpa using rel⟩) (fun b u z => ?_) (fun b z => ?_) (fun z => absurd sn z)
    · by_cases h : b = a
      · subst h; rw [sn] at z; cases z
      · by_cases h2 : ∃ t ∈ T, t.2 = b
        · rw [atT b h2] at z; cases z; exact tabAt b h2
        · rw [atO b h h2] at z; cases z
    · by_cases h : b = a
      · subst h; exact absurd sn z
      · by_cases h2 : ∃ t ∈ T, t.2 = b
        · exact .inl h2
        · exact absurd (atO b h h2) z
  | none =>
    have sn : H0 a = some (.frz { cls := .type "list", data := .seq vs.toArray } (.lst (ns.map V.int))) := by rw [atA]; show (match K.lookup a with | some _ => none | none => _) = _; rw [hk]
    refine main H0 (fun t ht => atT _ ⟨t, ht, rfl⟩) (Or.inl (Or.inr ⟨_, sn⟩)) (fun b u z => ?_) (fun b z => ?_) (fun _ => hk)
    · by_cases h : b = a
      · subst h
        rw [sn] at z
        cases z
        exact ⟨ha, by rw [List.length_map]; exact short, vs, _, rel, ha⟩
      · by_cases h2 : ∃ t ∈ T, t.2 = b
        · rw [atT b h2] at z; cases z; exact tabAt b h2
        · rw [atO b h h2] at z; cases z
    · by_cases h : b = a
      · subst h; exact .inr ⟨rfl, _, _, sn⟩
      · by_cases h2 : ∃ t ∈ T, t.2 = b
        · exact .inl h2
        · exact absurd (atO b h h2) z
/-- what the end is told of the law, at the head's heap -/
def LawG (l : PySem.W.OpenLaw) (w : World) (k n : Nat) (x : Str) (mg : Str → Option Value) (fa : Addr) (h : Heap) : Prop :=
  ∃ (K : PySem.W.Frag) (fd : FuncData) (T : List (Addr × Addr)) (sp : Sp), K.In h ∧ (∀ t ∈ T, h.get? t.2 = some noTab) ∧ (∀ t ∈ T, K.lookup t.2 = none) ∧ (∀ t ∈ T, PySem.W.CodeHd h t.1 t.2) ∧ (∀ (s : Shared) (u : Value), BindsTo s fd ⟨[u], []⟩ [(x, u)]) ∧
    (∀ (H : Hp) (a : Addr) (ns : List Int), ns.length ≤ n → (∀ t ∈ T, H t.2 = some (.tbl #[]) ∧ a ≠ t.2) → SqL K H a (ns.map V.int) → sp [.ref a] H (fun v _ => v = .bl true) E0) ∧
    ∀ base : Heap, K.In base → base.Ns mainGlobals mg → (∀ t ∈ T, LamX.TabB base mg t.1 t.2) → FnG l.prog w K mg base k fa fd [x] sp
theorem walk_ofGT {l : PySem.W.OpenLaw} {n k : Nat} {q : Program} {loose : List Str} {XP : (Str → Option Value) → Heap → Prop} {YP : World → Heap → Prop} {d : DefRec} {x : Str} (hn : l.most = some n) (hn2 : n ≤ sizeLine) (hdf : d.params.defaults = []) (hr : Room k callerA)
    (F : ∀ (w : World) (mg : Str → Option Value) (fa : Addr) (h : Heap), YP w h → h.Ns mainGlobals mg → mg d.name = some (.ref fa) → LawG l w k n x mg fa h) : PySem.W.WalkO q loose XP YP l.row.toRowW d [] (fun f vs => PySem.call f vs) := by
  refine Att.attach_call hn hdf ?_
  intro w s₀ s₁ mg mb fa o pm cd doc a vs ns G Y ho hd hcd hmg hobj hints hlen hgen
  obtain ⟨K, fd, T, sp, b1, b2, b3, b4, b5, b6, b7⟩ := F w mg fa _ Y G.T.g hmg
  exact law_callGT b1 G.T.g G.T.b G.T.builtins G.T.nolimit hgen b2 b3 b4 G.T.bmain hobj hints (Nat.le_trans hlen hn2) hr b7 b5 fun H h1 h2 => b6 H a ns hlen h1 h2
end
end GL
end
section
set_option linter.all false
set_option maxRecDepth 100000
set_option maxHeartbeats 2000000
/-! GL19: from the head's facts to the defs' promises. -/
namespace GL
open PySem L2 PySem.Calls PyProof.Rows
variable [TabCx] [XCx]
section
variable {P : Program} {w : World} {K : PySem.W.Frag} {mg : Str → Option Value} {base : Heap}
omit [XCx] in
/-- as gfn, for a def whose code object is asked for -/
theorem gfnC {x qual : Str} {st : Stmt} {f : Addr} {fd : FuncData} {N ps : List Str} {k : Nat} {S : Spc} {m : GMS} (F : Fun K x qual st f fd) (sc : FnScope N ps (defScope st)) (len : ∀ zs P, S zs P → zs.length = ps.length)
    (hbody : ∀ [XCx] (c : Addr) (A : Around) (outer : List PySem.Env) (s : Shared) (H : Hp) (E : XK) (o : Value) (od : Option Addr) (osl : Array (Option Value)), K.lookup f = some ⟨o, od, .func fd, osl⟩ → fd.code = .ref c → Room k (A.deeper (envOfC qual (defScope st) s.heap.objs.size f (.ref c))) →
      ∃ t, GSs (cxOf CX0 P w K mg base N qual (defScope st) f (.ref c) A outer s H E).nox (defBody st) t m)
    (read : ∀ zs P, S zs P → m { nx := fun _ => P (.d .non), rt := P } (startG N zs)) : FnOk P w K mg base CX0 (k + 1) f fd ps (GSp S) := by
  letI : XCx := XCx.off
  obtain ⟨oc, od, kV, doc, pm, an, cdv, ct, osl, rfl, lk, hcd⟩ := F.ex
  obtain ⟨c, rfl⟩ := He.codeIn_ref hcd
  refine fn_of lk hcd sc (fun vs H Q E ⟨dr, H0, zs, P, B, z, s, _⟩ => by rw [z.length]; exact len zs P s) fun A outer s H vs Q E hr ⟨dr, H0, zs, P, B, z, hs, kk⟩ => ?_
  obtain ⟨t, ht⟩ := @hbody XCx.off c A outer s H E oc od osl lk rfl hr
  refine ⟨t, ht.ps.nox, ht.sn dr H0 H _ (startG N zs) H0 H { nx := fun _ => P (.d .non), rt := P } _ B .refl (@rs_start _ XCx.off _ _ _ _ _ _ _ z (fun a => a.elim) (fun _ a => a.elim)) ⟨fun σ ρ A0 A1 B1 S1 R1 q => kk .non _ A0 A1 B1 S1 (.d .non) q, fun v z A0 A1 B1 S1 zv q => kk v z A0 A1 B1 S1 zv q, fun _ _ _ _ _ _ _ q => q.elim, fun _ _ _ _ _ _ _ q => q.elim, fun _ => B.ex⟩ (read zs P hs)⟩
theorem FnP.bindsR {x qual : Str} {st : Stmt} {f : Addr} {fd : FuncData} {ps ks : List Str} (F : FnP K x qual st f fd)
    (h : ∀ (kV doc pm : Value) (an : Option Addr) (cdv ct : Value) (us : List Value), us.length = ps.length → bindArgs (PySem.W.fnOf x qual (defArgs st) (defBody st) (defScope st) .none kV doc pm an cdv ct) ⟨[], ks.zip us.reverse⟩ = pure (ps.zip us)) :
    ∀ us : List Value, us.length = ps.length → bindArgs fd ⟨[], ks.zip us.reverse⟩ = pure (ps.zip us) := by
  obtain ⟨oc, od, kV, doc, pm, an, cdv, ct, osl, rfl, lk, hcd⟩ := F.dfl.ex
  exact h kV doc pm an cdv ct
end
/-! ### a function that stands at an address -/
def fnA (K : PySem.W.Frag) (a : Addr) : He.FnW := match K.lookup a with
  | some ⟨_, _, .func fd, _⟩ => some (fd.name, fd.qualname, fd.params, fd.body, fd.scope, fd.globals, fd.closure, fd.builtins)
  | _ => none
def okA (K : PySem.W.Frag) (a : Addr) (qual : Str) : Bool := PySem.W.keepIn K (.ref a) && (match K.lookup a with
  | some ⟨_, _, .func fd, _⟩ => PySem.W.codeIn K fd.code qual && (He.dflB K fd.defaults [] && He.kwdB K fd.kwdefaults [])
  | _ => false)
def gval (st : Stmt) (nm qual : Str) : He.FnW := some (nm, qual, defArgs st, .stmts (defBody st), defScope st, mainGlobals, [], builtinsNs)
theorem funA {K : PySem.W.Frag} {a : Addr} {st : Stmt} {nm qual : Str} (e : fnA K a = gval st nm qual) (c : okA K a qual = true) : ∃ fd, FnP K nm qual st a fd := by
  obtain ⟨kp, c2⟩ := He.ba c
  unfold fnA gval at e
  cases q : K.lookup a with
  | none => rw [q] at c2; cases c2
  | some o =>
    obtain ⟨oc, od, dt, osl⟩ := o
    rw [q] at c2 e
    cases dt with
    | func fd =>
      obtain ⟨n1, n2, n3, n4, n5, n6, n7, n8, n9, n10, n11, n12, n13, n14, n15⟩ := fd
      have e2 : (some (n1, n2, n3, n4, n5, n6, n7, n15) : He.FnW) = some (nm, qual, defArgs st, .stmts (defBody st), defScope st, mainGlobals, [], builtinsNs) := e
      simp only [Option.some.injEq, Prod.mk.injEq] at e2
      obtain ⟨rfl, rfl, rfl, rfl, rfl, rfl, rfl, rfl⟩ := e2
      have c3 : (PySem.W.codeIn K n13 _ && (He.dflB K n8 [] && He.kwdB K n9 [])) = true := c2
      obtain ⟨k1, k2⟩ := He.ba c3
      obtain ⟨k3, k4⟩ := He.ba k2
      exact ⟨_, ⟨oc, od, n8, n9, n10, n11, n12, n13, n14, osl, rfl, q, k1, He.dflB_ok k3, He.kwdB_ok k4⟩, kp⟩
    | _ => cases c2
/-! ### a property, a class -/
def pa (K : PySem.W.Frag) (x f : Str) : Addr := He.ma K (He.ga K x) f
def gtr (K : PySem.W.Frag) (x f : Str) : Addr := match PySem.W.recIn K (pa K x f) "property" with
  | some (.ref g :: _) => g
  | _ => 0
def isRef : Option (List Value) → Bool
  | some (.ref _ :: _) => true
  | _ => false
def propB (K : PySem.W.Frag) (x f qual : Str) : Bool := He.eqO (PySem.W.findIn K (.ref (He.ga K x)) f) (some (some (.ref (pa K x f)))) && (He.eqO (PySem.W.specialIn K (.ref (pa K x f)) "__get__") (some (some (.builtin "property.__get__"))) &&
  (decide (PySem.W.takesIn K (.ref (pa K x f)) = some true) && (isRef (PySem.W.recIn K (pa K x f) "property") && okA K (gtr K x f) qual)))
theorem propOf {K : PySem.W.Frag} {x f qual : Str} (h : propB K x f qual = true) : PropOf K (He.ga K x) f (pa K x f) (gtr K x f) ∧ okA K (gtr K x f) qual = true := by
  obtain ⟨h1, h⟩ := He.ba h
  obtain ⟨h2, h⟩ := He.ba h
  obtain ⟨h3, h⟩ := He.ba h
  obtain ⟨h4, h5⟩ := He.ba h
  refine ⟨⟨He.eqO_ok h1, He.eqO_ok h2, of_decide_eq_true h3, ?_⟩, h5⟩
  unfold gtr
  cases q : PySem.W.recIn K (pa K x f) "property" with
  | none => rw [q] at h4; cases h4
  | some l =>
    rw [q] at h4
    match l, h4 with
    | .ref g :: r, _ => exact ⟨r, rfl⟩
def clsB (K : PySem.W.Frag) (x : Str) : Bool := He.eqO (PySem.W.findIn K (.ref (He.ga K x)) "__class__") (some (some (.builtin "object.__class__"))) && (He.eqO (PySem.W.specialIn K (.builtin "object.__class__") "__get__") (some (some (.builtin "getset_descriptor.__get__"))) &&
  (decide (PySem.W.takesIn K (.builtin "object.__class__") = some true) && decide (PySem.W.mroIn K (He.ga K x) (.type "object") = some true)))
theorem clsFacts {K : PySem.W.Frag} {x : Str} (c : Cls K (He.ga K x)) (h : clsB K x = true) : ClsFacts K (He.ga K x) := by
  obtain ⟨h1, h⟩ := He.ba h
  obtain ⟨h2, h⟩ := He.ba h
  obtain ⟨h3, h4⟩ := He.ba h
  exact ⟨c, He.eqO_ok h1, He.eqO_ok h2, of_decide_eq_true h3, of_decide_eq_true h4⟩
end GL
end
section
set_option linter.all false
set_option maxRecDepth 100000
set_option maxHeartbeats 2000000
/-! GL20: min and max of data. -/
namespace GL
open PySem L2 PySem.Calls PyProof.Rows PySem.W
section
variable {prog : Program} {w : World} {A : Around} {E : Value → Shared → Prop} {s : Shared}
/-- min of a list or a tuple of alike data: the item itself, with its place -/
theorem min_seq_at {l : Addr} {vs : Array Value} {x : PyData} {xs : List PyData} {as : List Addr} {Q : Value → Shared → Prop} (hh : A.handled = none) (hl : s.heap.IsList l vs ∨ s.heap.IsTuple l vs) (hr : ReadsAll s.heap vs.toList (x :: xs) as) (ha : AlikeAll (x :: xs)) (hu : A.units + 1 + PyData.depthAll (x :: xs) < cLine)
    (h : ∀ (i : Nat) v h' tk, vs[i]? = some v → (x :: xs).getD i .none = minD x xs → (∀ b o, s.heap.get? b = some o → h'.get? b = some o) → Q v { s with heap := h', toks := tk }) :
    wpAny (model prog w) A (call (.builtin "min") [.ref l]) Q E s := by
  have hn : vs.size = xs.length + 1 := readsAll_len hr
  have e1 : vs.size - 1 = xs.length := by omega
  have e2 := (argBest_fold dataLt PyData.none x xs xs.length (Nat.le_refl _)).2
  rw [List.take_length] at e2
  have fin : ∀ (v : Value) (h' : Heap) (tk : Nat), vs[argBest (fun i j => dataLt ((x :: xs).getD i .none) ((x :: xs).getD j .none)) (vs.size - 1)]? = some v → (∀ b o, s.heap.get? b = some o → h'.get? b = some o) → Q v { s with heap := h', toks := tk } := fun v h' tk hP hk' => by
    refine h _ v h' tk hP ?_ hk'
    rw [e1]
    exact e2
  rcases hl with hl | hl
  · refine call_min_walkH (iter_listW (A := A.in1) hh hl fun s₂ e W st hfp hw hk => ?_)
    refine ⟨_, _, _, _, _, _, _, s.heap, _, rfl, W, st, hfp, by omega, hw, hk, cmpIn_lt (A := A.in1) hr ha (by show A.units + 1 + _ < _; exact hu), fun v s' hP m => ?_⟩
    obtain ⟨h', tk, rfl, hk'⟩ := moved_old e rfl m
    exact fin v h' tk hP hk'
  · refine call_min_walkH (iter_tupleW (A := A.in1) hh hl fun s₂ e W st hfp hw hk => ?_)
    refine ⟨_, _, _, _, _, _, _, s.heap, _, rfl, W, st, hfp, by omega, hw, hk, cmpIn_lt (A := A.in1) hr ha (by show A.units + 1 + _ < _; exact hu), fun v s' hP m => ?_⟩
    obtain ⟨h', tk, rfl, hk'⟩ := moved_old e rfl m
    exact fin v h' tk hP hk'
end
variable [TabCx] [XCx]
def rMinA (K : PySem.W.Frag) : List V → Hp → VK → Prop := fun vs H Q => ∃ (a : Addr) (us : List V) (x : PyData) (xs : List PyData), vs = [.ref a] ∧ (H a = some (.lst us) ∨ H a = some (.tup us)) ∧ DpAll K H us (x :: xs) ∧ AlikeAll (x :: xs) ∧ PyData.depthAll (x :: xs) ≤ 60 ∧
  ∀ (i : Nat) (u : V), us[i]? = some u → (x :: xs).getD i .none = minD x xs → Q u H
theorem vals_at : ∀ {us : List V} {vs : List Value} {i : Nat} {v : Value}, Vals us vs → vs[i]? = some v → ∃ u, us[i]? = some u ∧ RelV u v
  | _, _, _, _, .nil, e => by simp at e
  | _, _, 0, _, .cons r _, e => by simp at e; subst e; exact ⟨_, rfl, r⟩
  | _, _, i + 1, _, .cons _ t, e => by
    obtain ⟨u, h1, h2⟩ := vals_at (i := i) t (by simpa using e)
    exact ⟨u, by simpa using h1, h2⟩
theorem cr_minA {X : Cx} (hc : X.calm = true) (hu : X.A.units + 64 < cLine) : CallR X (.builtin "min") (rMinA X.K) := by
  intro pins s σ H xs us Q I r h
  obtain ⟨a, us', x, ys, rfl, hs, hd, hal, hdp, q⟩ := h
  have e := r.ref1
  subst e
  obtain ⟨o, n, its, ho, hcl, hda, rv, hz⟩ := seq_obj I hs
  obtain ⟨as, ra⟩ := Dp.readsAll I _ _ _ hd rv
  have hl : s.heap.IsList a its.toArray ∨ s.heap.IsTuple a its.toArray := by
    rcases hcl with c | c
    · exact .inl ⟨o, ho, c, n, hda⟩
    · exact .inr ⟨o, ho, c, n, hda⟩
  refine min_seq_at (I.ok.hd hc) hl ra hal (by omega) fun i v h' tk hv e hk => ?_
  obtain ⟨u, hu', ru⟩ := vals_at rv (by simpa using hv)
  exact ⟨u, H, I.kept hk, ru, q i u hu' e⟩
def fMinA : List Z → (Z → Prop) → Prop := fun zs P => ∃ (z : Z) (t : Bool) (x : D) (xs : List D), zs = [z] ∧ z.seq = some (t, x :: xs) ∧ D.plains (x :: xs) = true ∧ AlikeAll (D.pys (x :: xs)) ∧ PyData.depthAll (D.pys (x :: xs)) ≤ 60 ∧
  ∀ y ∈ x :: xs, y.py = minD x.py (D.pys xs) → P (.d y)
theorem pys_getD : ∀ {xs : List D} {i : Nat} {d : D}, xs[i]? = some d → (D.pys xs).getD i .none = d.py := fun {xs i d} e => by
  rw [D.pys_eq, List.getD_eq_getElem?_getD, List.getElem?_map, e]
  rfl
theorem cs_minA {K : PySem.W.Frag} : CallS (rMinA K) fMinA := fun dr Hs H0 H xs zs Q P B h ⟨z, t, x, ys, e, ez, pl, al, dp, p⟩ k => by
  subst e
  obtain ⟨v, rfl, hv⟩ := h.one
  obtain ⟨a, vs, rfl, hl, da⟩ := hv.seq B ez
  have hl' := (hide_some hl).1
  have dpa := (da.mono B.ex).dp (K := K) pl
  have ep : D.pys (x :: ys) = x.py :: D.pys ys := by simp [D.pys]
  rw [ep] at dpa al dp
  refine ⟨a, vs, x.py, D.pys ys, rfl, ?_, dpa, al, dp, fun i u hu e => ?_⟩
  · cases t with
    | false => exact .inl hl'
    | true => exact .inr hl'
  · obtain ⟨d, h1, h2⟩ := da.getV hu
    refine k u (.d d) H0 H B .refl (.d h2) (p d (List.mem_of_getElem? h1) ?_)
    rw [← e, ← ep, pys_getD h1]
end GL
end
section
set_option linter.all false
set_option maxRecDepth 100000
set_option maxHeartbeats 2000000
/-! GL21: repr of a list display whose items may be lists of one's own. -/
namespace GL
open PySem L2 PySem.Calls PyProof.Rows PySem.W
variable [TabCx] [XCx]
def mReprL (mz : GMA) : GM := fun ρ P => mz ρ fun zs => ∃ ds : List D, zs.map Z.cont = ds.map some ∧ zs.length ≤ sizeLine ∧ (D.lst ds).shows ∧ P (.d (.str (D.lst ds).py.shown))
theorem zv_dps {dr : Option Dr} {K : PySem.W.Frag} {Hs H0 H : Hp} (B : Bas dr H0 H) : ∀ {vs : List V} {zs : List Z} {ds : List D}, ZvAll dr Hs H0 H vs zs → zs.map Z.cont = ds.map some → D.plains ds = true → DpAll K H vs (D.pys ds)
  | _, _, [], .nil, _, _ => by simpa [D.pys] using DpAll.nil
  | _, _, d :: ds, .cons h t, e, p => by
    rw [List.map_cons, List.map_cons] at e
    obtain ⟨e1, e2⟩ := List.cons.inj e
    have p' : D.plain d = true ∧ D.plains ds = true := by simpa [D.plains] using p
    simpa [D.pys] using DpAll.cons (h.dp B e1 p'.1) (zv_dps B t e2 p'.2)
  | _, _, _ :: _, .nil, e, _ => by simp at e
  | _, _, [], .cons _ _, e, _ => by simp at e
theorem snd_reprL {K : PySem.W.Frag} {tl : TA} {mz : GMA} (ha : SndA K tl mz) : SndE K (tCB (rReprD K) (tCons (tLst tl) tNil)) (mReprL mz) := fun dr Hi σ ρ H0 H Q P B R w k =>
  ha dr Hi σ ρ H0 H _ _ B R w fun vs zs A0 A1 B1 S1 z1 ⟨ds, e, hl, sh, p⟩ => ⟨by rw [z1.length]; exact hl, fun q hq => by
    have B2 := B1.new (o := .lst vs) hq
    have pl : D.plains ds = true := by simpa [D.plain] using sh.1
    have d := zv_dps (K := K) B2 (z1.step (.new hq)) e pl
    refine ⟨q, (D.lst ds).py, rfl, ?_, sh.2.1, sh.2.2.1, sh.2.2.2.1, sh.2.2.2.2, k _ _ A0 _ B2 (S1.trans (.new hq)) (.d (.str _)) p⟩
    simpa [D.py] using Dp.lst (.of upd_same) d⟩
theorem ge_reprL {X : Cx} {es : List Expr} {tl : TA} {mz : GMA} {p lp pos : Pos} (hgu : X.A.guards = some []) (hu : X.A.units + 64 < cLine) (hg : Gl X "repr") (hm : X.mg "repr" = none) (hv : bootBuiltins "repr" = some (.builtin "repr")) (ha : GA X es tl mz)
    (hst : starEach [.List es lp] X.env = [(false, eval (.List es lp) X.env)] := by rfl) (hpl : (backTo pos (starEach [.List es lp] X.env)).any (·.1) = false := by rfl) :
    GE X (.Call (.Name "repr" p) [.List es lp] [] pos) (tCB (rReprD X.K) (tCons (tLst tl) tNil)) (mReprL mz) :=
  ⟨pe_callB (cr_repr hgu hu) hg hm hv (pa_cons (pe_lst ha.pa) pa_nil hst) (by decide) (by decide) hst hpl, snd_reprL ha.sn⟩
end GL
end
section
set_option linter.all false
set_option maxRecDepth 100000
set_option maxHeartbeats 4000000
/-! GL22: a set comprehension of texts, sorted. -/
namespace GL
open PySem PySem.Spec PyProof.Rows L2 PySem.Froz PySem.W
/-! ### the set at a, known to its payload -/
abbrev SDat : Type := Array (Int × Value) × Nat × SetTable
section
variable {P : Program} {w : World} {A : Around} {E : Value → Shared → Prop} {s : Shared}
/-- the payload of a set of the texts l, which can be walked -/
structure TrOk (P : Program) (w : World) (D : SDat) (l : List Str) : Prop where
  tx : TxOk P w D l
  nd : l.Nodup
  ris : Ris D.2.2.place.toList
  led : w.params.followText "set-order" = true ∨ D.2.2.led = true
def emptySD (w : World) : SDat := (#[], 0, .fresh 0 0 (!w.params.followText "set-order"))
theorem trOk_nil : TrOk P w (emptySD w) [] := by
  refine ⟨TxOk.nil (by rfl), List.nodup_nil, List.Pairwise.nil, ?_⟩
  cases q : w.params.followText "set-order" with
  | true => exact .inl rfl
  | false =>
    refine .inr ?_
    show (SetTable.fresh 0 0 (!w.params.followText "set-order")).led = true
    rw [q]; rfl
theorem tailTx_ris {ep : Nat} {es : Array (Int × Value)} {t : SetTable} {d : Bool} (h : Ris t.place.toList) : Ris (tailTx ep es t d).2.2.place.toList := by
  unfold tailTx
  split
  · exact relayAll_ris _ _ _
  · exact h
theorem tailTx_led {ep : Nat} {es : Array (Int × Value)} {t : SetTable} {d : Bool} : (tailTx ep es t d).2.2.led = t.led := by
  unfold tailTx
  split
  · exact relayAll_led _ _ _
  · rfl
theorem TrOk.add {D : SDat} {l : List Str} {k : Str} (u : Tok) (h : TrOk P w D l) (hk : k ∉ l) : TrOk P w (addTx (hashStr w k) (.str k u) D) (k :: l) := by
  refine ⟨add_ok u h.tx, List.nodup_cons.mpr ⟨hk, h.nd⟩, ?_, h.led.imp id fun z => ?_⟩
  · unfold addTx
    refine tailTx_ris ?_
    have r := layNew_ris D.2.2 D.1 (hashStr w k) (.str k u) h.ris
    split <;> exact r
  · unfold addTx
    rw [tailTx_led]
    have r := layNew_led D.2.2 D.1 (hashStr w k) (.str k u)
    split <;> exact r.trans z
/-- a text that is there already -/
theorem add_there {a : Addr} {D : SDat} {l : List Str} {k : Str} {u : Tok} {Q : Bool → Shared → Prop} (ho : s.heap.get? a = some (sObj "set" D)) (F : TxOk P w D l) (hk : k ∈ l) (hb : l.length < scanBound) (h : Q false s) :
    wpAny (model P w) A (setAddHashed a (.str k u) (hashStr w k)) Q E s := by
  obtain ⟨es, ep, t⟩ := D
  have hd : (sObj "set" (es, ep, t)).data = .set es ep t := rfl
  have hf : t.fits es.size = true := F.fit
  have hel : ElemsOf (strKind P w) es.toList := F.el
  have hsz : es.size < scanBound := by rw [show es.size = l.length from F.sz]; exact hb
  obtain ⟨e, he, hp⟩ := (F.mem k).mp hk
  unfold setAddHashed setAddHashedIn
  refine wpAny_holding (wpAny_bind (wpAny_setState_of ho hd hf ?_)); dsimp only
  rw [byScan_of rfl hsz hel]; simp only [↓reduceIte]
  unfold setAddByScan
  refine wpAny_bind (wpAny_bind (wpAny_rule (wpAny_bind (wpAny_setScan_of (knd := strKind P w) (k := k) (is_str k u) ho hd hf hel ?_))))
  cases hr : List.findIdx? (fun e => (strKind P w).is k e.2) es.toList with
  | none => rw [List.findIdx?_eq_none_iff.mp hr e he] at hp; cases hp
  | some j => dsimp only; exact wpAny_pure (wpAny_pure h)
theorem set_typeIs {a : Addr} {D : SDat} (ho : s.heap.get? a = some (sObj "set" D)) : s.TypeIs (.ref a) "set" := ⟨_, ho, rfl⟩
theorem tr_add {a : Addr} {D : SDat} {l : List Str} {k : Str} {u : Tok} {Q : Value → Shared → Prop} (ho : s.heap.get? a = some (sObj "set" D)) (T0 : TrOk P w D l) (hb : l.length + 1 < scanBound)
    (h : ∀ D' h', TrOk P w D' (if k ∈ l then l else k :: l) → Heap.SameBut a s.heap h' → h'.get? a = some (sObj "set" D') → Q .none { s with heap := h', toks := s.toks + 1 }) : wpAny (model P w) A (call (.builtin "set.add") [.ref a, .str k u]) Q E s := by
  refine wpAny_call_entry F.slot_set_add (set_typeIs ho) F.entry_set_add ?_ (F.args_set_add_2 _ _)
  unfold Builtin.«set.add» Builtin.Frozenset.oneOther; simp only [List.isEmpty_nil, bind_assoc]
  unfold Builtin.Frozenset.addrOf setAdd
  refine wpAny_bind (wpAny_pure ?_); try dsimp only
  refine wpAny_bind (wpAny_pure ?_); try dsimp only
  refine wpAny_bind (wpAny_holding (wpAny_bind ((strKind P w).pyHash (is_str k u) ?_)))
  by_cases hk : k ∈ l
  · refine add_there (s := { s with toks := s.toks + 1 }) ho T0.tx hk (by omega) ?_
    show wpAny _ _ (ret Value.none) _ _ _
    have q := h D s.heap (by rw [if_pos hk]; exact T0) (Heap.SameBut.refl a s.heap) ho
    exact wpAny_pure ⟨_, rfl, q⟩
  · refine add_x (s := { s with toks := s.toks + 1 }) ho T0.tx hk hb ?_
    show wpAny _ _ (ret Value.none) _ _ _
    have q := h (addTx (hashStr w k) (.str k u) D) (s.heap.update a fun _ => sObj "set" (addTx (hashStr w k) (.str k u) D)) (by rw [if_neg hk]; exact T0.add u hk) (Heap.SameBut.update s.heap a _) (get_upd _ ho rfl)
    exact wpAny_pure ⟨_, rfl, q⟩
end
/-! ### as a tracked thing -/
def SO (a : Addr) (D : SDat) : HO := .ext fun h => h.get? a = some (sObj "set" D)
theorem so_new {P : Program} {w : World} {H : Hp} {h : Heap} {a : Addr} {D : SDat} (e : h.get? a = some (sObj "set" D)) : ObjOk P w H h a (SO a D) := ⟨e, ⟨_, e⟩, fun _ _ p k => k _ p⟩
/-- a heap of one kind of thing alone -/
theorem one_heap (a : Addr) (o : Obj) (hf : o.isFreed = false) : ∃ h : Heap, h.get? a = some o ∧ ∀ b u, h.get? b = some u → u = o := by
  have e : ∀ n, ∃ h : Heap, h.objs.size = n ∧ ∀ b u, h.get? b = some u → u = o := by
    intro n
    induction n with
    | zero => exact ⟨{ objs := #[] }, rfl, fun b u z => absurd (Heap.lt_size z) (Nat.not_lt_zero _)⟩
    | succ n ih =>
      obtain ⟨h, q, all⟩ := ih
      refine ⟨h.push o, by rw [Heap.size_push, q], fun b u z => ?_⟩
      rcases Heap.get?_push_cases z with ⟨_, e⟩ | e
      · exact e
      · exact all b u e
  obtain ⟨h, q, all⟩ := e a
  refine ⟨h.push o, by rw [← q]; exact Heap.get?_push_size _ hf, fun b u z => ?_⟩
  rcases Heap.get?_push_cases z with ⟨_, e⟩ | e
  · exact e
  · exact all b u e
theorem so_ne {a : Addr} {D : SDat} (c : Addr) (q : Str) : SO a D ≠ LamX.CodeO c q := by
  intro e
  obtain ⟨h, hh, all⟩ := one_heap a (sObj "set" D) rfl
  have e2 : (fun h : Heap => h.get? a = some (sObj "set" D)) = fun h : Heap => ∃ (oc : Obj) (vs : Array Value) (t : Tok), h.get? c = some oc ∧ oc.data = .fields vs ∧ vs[1]? = some (.str q t) := HO.ext.inj e
  obtain ⟨oc, vs, t, g1, g2, _⟩ := (show ∃ (oc : Obj) (vs : Array Value) (t : Tok), h.get? c = some oc ∧ oc.data = .fields vs ∧ vs[1]? = some (.str q t) from Eq.mp (congrFun e2 h) hh)
  rw [all c oc g1] at g2
  cases g2
/-! ### the comprehension -/
section
variable {X : Cx}
theorem so_get {pins : List (Addr × Obj)} {σ : L2.St} {H : Hp} {s : Shared} {a : Addr} {D : SDat} (I : Inv X pins σ H s) (h : H a = some (SO a D)) : s.heap.get? a = some (sObj "set" D) := (I.hok a _ h).1
theorem addT_ok {pins : List (Addr × Obj)} {σ : L2.St} {H : Hp} {s : Shared} {E : Value → Shared → Prop} {a : Addr} {D : SDat} {l : List Str} {k : Str} {u : Tok} {Q : Value → Shared → Prop} (I : Inv X pins σ H s) (hD : H a = some (SO a D)) (T0 : TrOk X.prog X.w D l) (hb : l.length + 1 < scanBound)
    (h : ∀ D' s', TrOk X.prog X.w D' (if k ∈ l then l else k :: l) → Inv X pins σ (upd H a (SO a D')) s' → Q .none s') : wpAny (model X.prog X.w) X.A (call (.builtin "set.add") [.ref a, .str k u]) Q E s :=
  tr_add (so_get I hD) T0 hb fun D' h' T1 sb e => h D' _ T1 (I.write (e := a) (t' := s.toks + 1) (by rw [hD]; trivial) (.inl rfl) (fun b u hb hu => (sb.2 b hb).trans hu) ⟨_, e⟩ (so_new e))
/-- {elt for target in iter if ..}, elt a text -/
def tScT (P : Program) (w : World) (wi : TI) (g : TG) (tt : TT) (te : TE) (vs : List Nat) : TE := fun σ H Q => wi σ H fun J H1 => ∀ p, H1 p = none → ∃ W : Nat → Nat → Hp → Prop, (∃ m, W 0 m (upd H1 p (SO p (emptySD w)))) ∧ ∀ i m H, W i m H →
  (J.stop i H ∧ Q (.ref p) H) ∨ (J.go i H ∧ ∃ Nx : Hp → Prop, (∀ H', Nx H' → ∃ m', m' < m ∧ W (i + 1) m' H') ∧ ∀ x H', J.yld i H x H' → g x (wipe σ vs) H' fun σ2 H2 => wipe σ2 vs = wipe σ vs ∧ tt σ2 H2 fun b H3 =>
    if b = true then te σ2 H3 fun y H4 => ∃ (k : Str) (D : SDat) (l : List Str), y = .str k ∧ H4 p = some (SO p D) ∧ TrOk P w D l ∧ l.length + 1 < scanBound ∧ ∀ D', TrOk P w D' (if k ∈ l then l else k :: l) → Nx (upd H4 p (SO p D')) else Nx H3)
theorem pe_scT {elt tg iter : Expr} {ifs : List Expr} {scope : Scope} {own : List (PySem.Str × Nat)} {pos : Pos} {wi : TI} {g : TG} {tt : TT} {te : TE} (hc : X.calm = true) (hN : X.N.Nodup) (hi : PI X tg iter wi) (ok : BlkOk X.N X.env.scope scope own)
    (hg : ∀ (s : Shared) (H : Hp) (C : Addr) (cl : List (PySem.Str × Addr)) (fp : List Addr), PG (X.blk s H scope (compEnvC scope cl C X.env) fp) tg g) (ht : ∀ (s : Shared) (H : Hp) (C : Addr) (cl : List (PySem.Str × Addr)) (fp : List Addr), PTs (X.blk s H scope (compEnvC scope cl C X.env) fp) ifs tt)
    (he : ∀ (s : Shared) (H : Hp) (C : Addr) (cl : List (PySem.Str × Addr)) (fp : List Addr), PE (X.blk s H scope (compEnvC scope cl C X.env) fp) elt te) (hs : ∀ x, foldedSetIterable iter X.env x = pure x := by intro _; rfl) :
    PE X (.SetComp elt [⟨tg, iter, ifs, 0⟩] scope pos) (tScT X.prog X.w wi g tt te (own.map (·.2))) := by
  refine ⟨fun pins s σ H Q I h => ?_⟩
  rw [PpSet.eval_SetComp]
  refine wpAny_comprehension_free (use := none) rfl hs (closure_ok fun y hy e => (ok.free y hy e).elim (fun k => I.ok.has _ (.inl k)) fun k => I.ok.has _ (.inr k)) ok.kind (fun y hy e => by rw [ok.uniq y hy, e]) (thn (hi.run pins s σ H _ I h) fun xv s1 hx => thn hx fun itv s2 h2 => ?_)
  obtain ⟨it, fp, tn, J, H2, rfl, I2, Tn, st2, f2, q⟩ := h2
  refine PpSet.newSet_ok (newEnv_comp ?_)
  have hpn : H2 s2.heap.objs.size = none := I2.hok.fresh (Nat.le_refl _)
  generalize hp : s2.heap.objs.size = p at hpn ⊢
  obtain ⟨W, ⟨m0, w0⟩, turn⟩ := q p hpn
  have eo : ({ cls := .type "set", dict := none, data := .set #[] 0 (.fresh 0 0 (!X.w.params.followText "set-order")) } : Obj) = sObj "set" (emptySD X.w) := rfl
  rw [eo]
  have I3 : Inv X pins σ (upd H2 p (SO p (emptySD X.w))) { s2 with heap := s2.heap.push (sObj "set" (emptySD X.w)) } :=
    I2.laid (t' := s2.toks) (fun b o e => Heap.get?_push_of_some _ e) (Nat.le_of_eq hp) (so_new (by rw [← hp]; exact Heap.get?_push_size _ rfl))
  have sz : ∀ b ∈ fp, b < s2.heap.objs.size := fun b hb => let ⟨o, e, _⟩ := Tn.obj _ _ st2 b hb; Heap.lt_size e
  have h3 : ({ s2 with heap := s2.heap.push (sObj "set" (emptySD X.w)) } : Shared).heap = s2.heap.push (sObj "set" (emptySD X.w)) := rfl
  have st3 : tn 0 (s2.heap.push (sObj "set" (emptySD X.w))) := Tn.keep _ _ _ st2 fun b _ o e => Heap.get?_push_of_some _ e
  generalize hs3 : ({ s2 with heap := s2.heap.push (sObj "set" (emptySD X.w)) } : Shared) = s3 at I3 h3
  have f3 : ∀ b ∈ fp, FpOk X pins (upd H2 p (SO p (emptySD X.w))) b ∧ b < s3.heap.objs.size := fun b hb => by
    have lt := sz b hb
    exact ⟨⟨by rw [upd_ne (by rw [← hp]; exact Nat.ne_of_lt lt)]; exact (f2 b hb).1, (f2 b hb).2⟩, by rw [h3, Heap.size_push]; exact Nat.lt_succ_of_lt lt⟩
  have st3' : tn 0 s3.heap := by rw [h3]; exact st3
  have I4 := block_start I3 ok hN f3
  have pg := hg s3 (upd H2 p (SO p (emptySD X.w))) s3.heap.objs.size (cellsFrom (s3.heap.objs.size + 1) scope.names (cloFrom X.env.cells scope.names [])) fp
  have pt := ht s3 (upd H2 p (SO p (emptySD X.w))) s3.heap.objs.size (cellsFrom (s3.heap.objs.size + 1) scope.names (cloFrom X.env.cells scope.names [])) fp
  have pe := he s3 (upd H2 p (SO p (emptySD X.w))) s3.heap.objs.size (cellsFrom (s3.heap.objs.size + 1) scope.names (cloFrom X.env.cells scope.names [])) fp
  show codeAny _ _ (.compStart (.SetComp elt [⟨tg, iter, ifs, 0⟩] scope pos) 0 (.ref it) (.ref p) (compEnvC scope (cellsFrom (s3.heap.objs.size + 1) scope.names (cloFrom X.env.cells scope.names [])) s3.heap.objs.size X.env)) (compPost (model X.prog X.w) X.A X.xe none _ (.ref p) s3.heap.objs.size) { s3 with heap := pushCells (s3.heap.push { cls := .type "dict", data := .dict #[] }) scope.names }
  have nfp : ∀ b ∈ fp, (upd H2 p (SO p (emptySD X.w))) b = none := fun b hb => (f3 b hb).1.1
  generalize hce : compEnvC scope (cellsFrom (s3.heap.objs.size + 1) scope.names (cloFrom X.env.cells scope.names [])) s3.heap.objs.size X.env = ce at I4 pg pt pe ⊢
  have cL : ce.locals = s3.heap.objs.size := by rw [← hce]; rfl
  generalize hH3 : upd H2 p (SO p (emptySD X.w)) = H3 at I3 I4 pg pt pe w0 nfp f3
  generalize hs4 : ({ s3 with heap := pushCells (s3.heap.push { cls := .type "dict", data := .dict #[] }) scope.names } : Shared) = s4 at I4 ⊢
  have st4 : tn 0 s4.heap := Tn.keep _ _ _ st3' fun b _ o e => by rw [← hs4]; exact pushCells_keeps _ _ _ _ (Heap.get?_push_of_some _ e)
  have stat : ∀ {σ' : L2.St} {H' : Hp} {s' : Shared}, Inv (X.blk s3 H3 scope ce fp) [] σ' H' s' → (∀ b ∈ fp, H' b = none) → ∀ b ∈ fp, FpOk (X.blk s3 H3 scope ce fp) [] H' b := fun I' hn b hb => ⟨hn b hb, (I'.ok.exf b hb).1, I'.ok.exfs b hb, .inl hb, fun x c e => (I'.ok.exf b hb).2 x c e, fun p hp => absurd (show p ∈ ([] : List (Addr × Obj)) ++ [] from hp) (by simp)⟩
  have loop : codeAny (model X.prog X.w) X.A (.compLoop (.SetComp elt [⟨tg, iter, ifs, 0⟩] scope pos) 0 (.ref it) (.ref p) ce) (compPost (model X.prog X.w) X.A X.xe none (EP X pins σ Q) (.ref p) s3.heap.objs.size) s4 := by
    refine PpSet.compLoopS_any (fun n s' => ∃ i H', Inv (X.blk s3 H3 scope ce fp) [] (wipe σ (own.map (·.2))) H' s' ∧ tn i s'.heap ∧ (∀ b ∈ fp, H' b = none) ∧ W i n H') ?_ m0 ⟨0, H3, I4, st4, nfp, w0⟩
    rintro n s5 ⟨i, H5, I5, st5, n5, w5⟩
    rcases turn i n H5 w5 with ⟨stop, qq⟩ | ⟨go, Nx, hNx, step⟩
    · refine thnF (Tn.done (X.blk s3 H3 scope ce fp) rfl rfl rfl hc i [] s5 _ H5 (fun _ _ => False) I5 (stat I5 n5) st5 stop) fun r s6 ⟨hr, I6⟩ => ?_
      subst hr
      have I7 : Inv X pins σ H5 s6 := I3.call' (ch := fp) I6.os I6.base I6.hok I6.bare fun b hb => let z := (f3 b hb).1.2; ⟨z.2.2.1, z.1, z.2.2.2.1, z.2.2.2.2⟩
      have nC : H5 s3.heap.objs.size = none := by rw [← cL]; exact I6.free
      obtain ⟨m, hn, _⟩ := I6.loc
      replace hn : s6.heap.Ns ce.locals m := hn
      rw [cL] at hn
      obtain ⟨f0, f1, f2, f3, f4, f5⟩ := I3.fpOk (Nat.le_refl _) nC
      exact ⟨m, hn, fun h'' sb => ⟨.ref p, H5, I7.turned (t' := s6.toks) (fun b o hb e => (sb.2 b hb).trans e) f0 f1 f3 f4 f5, rfl, qq⟩⟩
    · refine thnF (Tn.item (X.blk s3 H3 scope ce fp) rfl rfl rfl hc i [] s5 _ H5 (fun _ _ => False) I5 (stat I5 n5) st5 go) fun r s6 ⟨u, hr, h6⟩ => ?_
      subst hr
      refine thnF h6 fun _ s7 ⟨x, H7, I7, r7, y7, st7, n7⟩ => ?_
      refine thnF (pg.run _ s7 _ H7 x u _ (I7.pinned (stat I7 n7) (Tn.obj _ _ st7)) r7 (step x H7 y7)) fun _ s8 ⟨σ8, H8, I8, hw8, q8⟩ => thnF (pt.run _ s8 σ8 H8 _ I8 q8) fun b s9 ⟨H9, I9, q9⟩ => ?_
      have fin : ∀ {s' : Shared} {H' : Hp}, Inv (X.blk s3 H3 scope ce fp) ([] ++ pinsAt fp s7.heap) σ8 H' s' → Nx H' → ∃ m, m < n ∧ ∃ i H', Inv (X.blk s3 H3 scope ce fp) [] (wipe σ (own.map (·.2))) H' s' ∧ tn i s'.heap ∧ (∀ b ∈ fp, H' b = none) ∧ W i m H' := fun {s' H'} I' nx => by
        obtain ⟨m', hm, w'⟩ := hNx H' nx
        have pin' : ∀ b ∈ fp, ∀ o, s7.heap.get? b = some o → s'.heap.get? b = some o ∧ H' b = none := fun b hb o e => let z := I'.pin (b, o) (List.mem_append_right _ (List.mem_append_right _ (mem_pinsAt hb e))); ⟨z.1, z.2.1⟩
        refine ⟨m', hm, i + 1, H', (I'.unpinned (pins := [])).weak (by rw [← hw8, wipe_length]) (fun j v e => (wipe_some (by rw [hw8]; exact e)).1), Tn.keep _ _ _ st7 fun b hb o e => (pin' b hb o e).1, fun b hb => let ⟨o, e, _⟩ := Tn.obj _ _ st7 b hb; (pin' b hb o e).2, w'⟩
      cases b with
      | false => simp only [Bool.false_eq_true, if_false] at q9 ⊢; exact fin I9 q9
      | true =>
        simp only [if_true] at q9 ⊢
        refine thnF (pe.run _ s9 σ8 H9 _ I9 q9) fun z s10 ⟨yv, H10, I10, r10, k, D, l, ey, hD, T0, hb, nx⟩ => ?_
        subst ey
        obtain ⟨tk, rfl⟩ := (show ∃ tk, z = Value.str k tk from r10)
        exact addT_ok (X := X.blk s3 H3 scope ce fp) I10 hD T0 hb fun D' s11 T1 I11 => fin I11 (nx D' T1)
  exact PpSet.codeAny_compStart_set loop (Tn.self X.A 0 _ _ _ st4 loop)
end
/-! ### sorted -/
variable [TabCx] [XCx]
theorem perm_of_sub {α : Type} [DecidableEq α] : ∀ {xs ys : List α}, xs.Nodup → (∀ x ∈ xs, x ∈ ys) → ys.length ≤ xs.length → ys.Perm xs
  | [], ys, _, _, h => by
    have : ys = [] := List.length_eq_zero_iff.mp (by simpa using h)
    rw [this]
  | x :: xs, ys, nd, sub, h => by
    obtain ⟨n1, n2⟩ := List.nodup_cons.mp nd
    have hx := sub x List.mem_cons_self
    refine (List.perm_cons_erase hx).trans (List.Perm.cons x (perm_of_sub n2 (fun y hy => (List.mem_erase_of_ne (fun e => n1 (by rw [← e]; exact hy))).mpr (sub y (List.mem_cons_of_mem _ hy))) ?_))
    rw [List.length_erase_of_mem hx]
    rw [List.length_cons] at h
    omega
section
variable {P : Program} {w : World} {A : Around} {E : Value → Shared → Prop} {s : Shared}
def txtOf : Value → Str
  | .str x _ => x
  | _ => Str.empty
theorem tx_vals {D : SDat} {l : List Str} (F : TrOk P w D l) {vs : List Value} (pm : vs.Perm (D.1.toList.map (·.2))) : (vs.map txtOf).Perm l ∧ ∀ v ∈ vs, ∃ t, v = .str (txtOf v) t := by
  have shape : ∀ e ∈ D.1.toList, ∃ t, e.2 = .str (txtOf e.2) t := fun e he => by
    obtain ⟨⟨k, hk, _⟩, _⟩ := F.tx.el e he
    obtain ⟨t, ht⟩ := Value.isStrOf_shape (show Value.isStrOf k e.2 = true from hk)
    exact ⟨t, by rw [ht]; rfl⟩
  refine ⟨(pm.map txtOf).trans ?_, fun v hv => ?_⟩
  · rw [List.map_map]
    refine perm_of_sub F.nd (fun k hk => ?_) ?_
    · obtain ⟨e, he, hi⟩ := (F.tx.mem k).mp hk
      obtain ⟨t, ht⟩ := Value.isStrOf_shape (show Value.isStrOf k e.2 = true from hi)
      exact List.mem_map.mpr ⟨e, he, by show txtOf e.2 = k; rw [ht]; rfl⟩
    · rw [List.length_map, Array.length_toList, F.tx.sz]
      exact Nat.le_refl _
  · obtain ⟨e, he, rfl⟩ := List.mem_map.mp (pm.mem_iff.mp hv)
    exact shape e he
theorem each_txt : ∀ {vs : List Value}, (∀ v ∈ vs, ∃ t, v = .str (txtOf v) t) → EachIs (fun v x => ∃ t, v = Value.str x t) vs (vs.map txtOf)
  | [], _ => .nil
  | v :: vs, h => .cons (h v List.mem_cons_self) (each_txt fun u hu => h u (List.mem_cons_of_mem _ hu))
theorem each_txt_vals : ∀ {vs : List Value} {xs : List Str}, EachIs (fun v x => ∃ t, v = Value.str x t) vs xs → Vals (xs.map V.str) vs
  | _, _, .nil => .nil
  | _, _, .cons r t => .cons r (each_txt_vals t)
theorem sorted_tx {a : Addr} {D : SDat} {l : List Str} {Q : Value → Shared → Prop} (ho : s.heap.get? a = some (sObj "set" D)) (F : TrOk P w D l) (hh : A.handled = none) (hb : l.length < scanBound) (hu : A.units + 64 < cLine)
    (hQ : ∀ s' p (out : List Value) (c : Nat), (∀ b o, s.heap.get? b = some o → s'.heap.get? b = some o) → s'.gens = s.gens → s'.os = s.os → s.heap.objs.size ≤ p → s'.heap.get? p = some (seqObj "list" out.toArray c) → Vals ((sortN l).map V.str) out → Q (.ref p) s') :
    wpAny (model P w) A (call (.builtin "sorted") [.ref a]) Q E s := by
  refine Calls.call_function_entry kind_sorted plain_sorted entry_sorted (args_sorted1 _) ?_
  unfold Builtin.«sorted»
  refine wpAny_bind (m := checkCount "sorted" 1 1 _) (wpAny_pure (wpAny_bind (collect_set (A := A.in1) hh ⟨_, ho, rfl, rfl⟩ F.tx.fit (by rw [F.tx.sz]; exact hb) F.ris F.led fun s1 vs k1 hz g1 o1 pm => ?_)))
  obtain ⟨pl, sh⟩ := tx_vals F pm
  have el := each_txt sh
  have lv : vs.length = l.length := by rw [← pl.length_eq, List.length_map]
  have lz : vs.length ≤ sizeLine := by rw [lv]; exact Nat.le_trans (Nat.le_of_lt hb) (by decide)
  refine wpAny_bind (wpAny_newList ?_ lz)
  have hoL : (s1.heap.push (seqObj "list" vs.toArray 0)).get? s1.heap.objs.size = some (seqObj "list" vs.toArray 0) := Heap.get?_push_size _ rfl
  have er : ∀ h : Heap, EachIs (fun v b => ∃ as, Reads h v ((fun x : Str => (GL.D.str x).py) b) as) vs (vs.map txtOf) := fun h => el.mono fun v x ⟨t, e⟩ => ⟨[], by rw [e]; simp only [GL.D.py]; exact .str _ _⟩
  have hal : AllAlike ((vs.map txtOf).map fun x : Str => (GL.D.str x).py) := fun d hd d' hd' => by
    obtain ⟨x, _, rfl⟩ := List.mem_map.mp hd
    obtain ⟨y, _, rfl⟩ := List.mem_map.mp hd'
    simp [GL.D.py, alike]
  have hk : Sortable ((vs.map txtOf).map fun x : Str => (GL.D.str x).py) := .inr fun d hd => by
    obtain ⟨x, _, rfl⟩ := List.mem_map.mp hd
    simp only [GL.D.py]
    exact ⟨nofun, fun _ => nofun⟩
  have dep : ∀ d ∈ (vs.map txtOf).map (fun x : Str => (GL.D.str x).py), A.in1.in1.units + d.depth < cLine := fun d hd => by
    obtain ⟨x, _, rfl⟩ := List.mem_map.mp hd
    simp only [GL.D.py, PyData.depth]
    show A.units + 1 + 1 + _ < _
    omega
  have can := SortsAt.data (prog := P) (w := w) (A := A.in1.in1) (s := { s1 with heap := sortingHeap (s1.heap.push (seqObj "list" vs.toArray 0)) s1.heap.objs.size vs }) (each_map (R := fun v d => ∃ as, Reads (sortingHeap (s1.heap.push (seqObj "list" vs.toArray 0)) s1.heap.objs.size vs) v d as) _ (er _)) hal hk dep
  refine wpAny_bind (wpAny_holding (wpAny_call_entry slot_list_sort ⟨_, hoL, rfl⟩ entry_list_sort (list_sort_vals (s := { s1 with heap := s1.heap.push (seqObj "list" vs.toArray 0) }) hoL can lz ⟨_, rfl, ?_⟩) (args_list_sort _)))
  have es := sortVals_data (h' := sortingHeap (s1.heap.push (seqObj "list" vs.toArray 0)) s1.heap.objs.size vs) (R := fun v x => ∃ t, v = Value.str x t) (enc := fun x : Str => (GL.D.str x).py) false el (er _) hal
  have e2 : (vs.map txtOf).mergeSort (dataLe false fun x : Str => (GL.D.str x).py) = sortN l := linS.perm pl
  rw [e2] at es
  obtain ⟨c, hc⟩ := sortedHeap_at (vs := vs) (out := (sortVals (dataKind (sortingHeap (s1.heap.push (seqObj "list" vs.toArray 0)) s1.heap.objs.size vs) ((vs.map txtOf).map fun x : Str => (GL.D.str x).py)) false vs vs).toArray) hoL
  refine wpAny_pure ⟨_, rfl, hQ _ s1.heap.objs.size _ c (fun b u e => ?_) g1 o1 hz hc (each_txt_vals es)⟩
  have q := k1 b u e
  have lt := Heap.lt_size q
  show (sortedHeap (s1.heap.push (seqObj "list" vs.toArray 0)) s1.heap.objs.size vs _).get? b = some u
  rw [sortedHeap_old (Nat.ne_of_lt lt) (by rw [size_push']; exact Nat.lt_succ_of_lt lt)]
  exact Heap.get?_push_of_some _ q
end
def rSortedT (P : Program) (w : World) : List V → Hp → VK → Prop := fun vs H Q => ∃ (a : Addr) (D : SDat) (l : List Str), vs = [.ref a] ∧ H a = some (SO a D) ∧ TrOk P w D l ∧ l.length < scanBound ∧ ∀ p, H p = none → Q (.ref p) (L2.upd H p (.lst ((sortN l).map V.str)))
theorem cr_sortedT {X : Cx} (hc : X.calm = true) (hu : X.A.units + 64 < cLine) : CallR X (.builtin "sorted") (rSortedT X.prog X.w) := by
  intro pins s σ H vs us Q I r h
  obtain ⟨a, D, l, rfl, ha, T0, hb, q⟩ := h
  rw [Vals.ref1 r]
  refine sorted_tx (so_get I ha) T0 (I.ok.hd hc) hb hu fun s' p out c k g o hp hg rv => ?_
  have hn : H p = none := I.hok.fresh hp
  have J : Inv X pins σ (L2.upd H p (.lst ((sortN l).map V.str))) { s with heap := s'.heap, gens := s'.gens, drawn := s'.drawn, toks := s'.toks } :=
    I.call (ch := []) (Un.laid k hp hn) (I.hok.laid k hp ⟨by rw [List.length_map, List.length_mergeSort]; exact Nat.le_trans (Nat.le_of_lt hb) (by decide), out, c, rv, hg⟩) (by rw [g]; exact I.bare) (fun _ z => nomatch z)
  have e : s' = { s with heap := s'.heap, gens := s'.gens, drawn := s'.drawn, toks := s'.toks } := by
    cases s'; cases s; cases o; rfl
  rw [e]
  exact ⟨.ref p, _, J, rfl, q p hn⟩
def mLcT (g : D → Env → (Env → Prop) → Prop) (mt : GMT) (md : GMD) : List D → Env → List Str → (List Str → Prop) → Prop
  | [], _, acc, P => P acc
  | x :: xs, ρ, acc, P => g x ρ fun ρ1 => mt ρ1 fun b => if b = true then md ρ1 fun y => ∃ k, y = .str k ∧ acc.length + 1 < scanBound ∧ mLcT g mt md xs ρ (if k ∈ acc then acc else k :: acc) P else mLcT g mt md xs ρ acc P
/-- sorted({..}) of texts -/
def mSortSC (mi : GML) (g : D → Env → (Env → Prop) → Prop) (mt : GMT) (md : GMD) (vs : List Nat) : GM := fun ρ P => mi ρ fun xs => mLcT g mt md xs (wipeG ρ vs) [] fun l => l.length < scanBound ∧ P (.own ((sortN l).map D.str))
theorem snd_sortSC {fr : Bool} {P' : Program} {w' : World} {K : PySem.W.Frag} {wi : TI} {mi : GML} {tG : TG} {g : D → Env → (Env → Prop) → Prop} {is vs : List Nat} {tt : TT} {mt : GMT} {te : TE} {md : GMD} (hi : SndI fr K wi mi) (hg : SndG tG g is) (his : ∀ i ∈ is, i ∈ vs) (ht : SndT K tt mt) (he : SndD K te md) :
    SndE K (tCB (rSortedT P' w') (tCons (tScT P' w' wi tG tt te vs) tNil)) (mSortSC mi g mt md vs) :=
  fun dr Hi σ ρ H0 H Q P B R w k => hi dr Hi σ ρ H0 H _ _ B R w fun J xs A0 A1 B1 S1 wk q => by
    intro p hp
    have op := B1.out hp
    have h0p := B1.ex.free hp
    have R1 := (R.step S1).wipe vs
    have ok : ∀ C0 C, Step dr A0 A1 C0 C → (if fr then Same A0 C0 else Step dr A0 A1 C0 C) := fun C0 C o => by
      cases fr with
      | true => exact o.e0
      | false => exact o
    refine ⟨fun i n H' => n = xs.length - i ∧ i ≤ xs.length ∧ ∃ H0' S acc, Bas dr H0' H' ∧ Step dr A0 A1 H0' H' ∧ H' p = some (SO p S) ∧ TrOk P' w' S acc ∧ H0' p = none ∧ mLcT g mt md (xs.drop i) (wipeG ρ vs) acc (fun l => l.length < scanBound ∧ P (.own ((sortN l).map D.str))),
      ⟨xs.length, rfl, Nat.zero_le _, A0, emptySD w', [], B1.new hp, .new hp, upd_same, trOk_nil, h0p, q⟩, ?_⟩
    rintro i n H' ⟨rfl, hle, H0', S, acc, B', S', hL, T0, h0L, q'⟩
    by_cases hlt : i < xs.length
    · refine .inr ⟨wk.go i H0' H' hlt B' (ok _ _ S'), fun H2 => i + 1 ≤ xs.length ∧ ∃ H0' S acc, Bas dr H0' H2 ∧ Step dr A0 A1 H0' H2 ∧ H2 p = some (SO p S) ∧ TrOk P' w' S acc ∧ H0' p = none ∧ mLcT g mt md (xs.drop (i + 1)) (wipeG ρ vs) acc (fun l => l.length < scanBound ∧ P (.own ((sortN l).map D.str))), fun H2 ⟨h1, h2⟩ => ⟨xs.length - (i + 1), by omega, rfl, h1, h2⟩, fun v H2 y => ?_⟩
      obtain ⟨C0, B2, S2, dv⟩ := wk.yld i xs[i] H0' H' v H2 (List.getElem?_eq_getElem hlt) B' (ok _ _ S') y
      rw [List.drop_eq_getElem_cons hlt] at q'
      have R2 : Rs K dr Hi C0 H2 (wipe σ vs) (wipeG ρ vs) := R1.step (S'.trans S2)
      have keep : ∀ {E0 E : Hp}, Step dr H0' H' E0 E → E p = some (SO p S) ∧ E0 p = none := fun {E0 E} s => ⟨s.same hL op, by
        cases q : E0 p with
        | none => rfl
        | some u =>
          rcases s.nw _ _ op q with e | e
          · rw [h0L] at e; cases e
          · rw [hL] at e; cases e⟩
      refine hg.run K dr Hi C0 H2 (wipe σ vs) (wipeG ρ vs) v xs[i] _ _ B2 R2 dv q' fun σ3 ρ3 R3 hw q3 => ⟨wipe_idem (hw vs his), ?_⟩
      refine ht dr Hi σ3 ρ3 C0 H2 _ _ B2 R3 q3 fun b E0 E1 B3 S3 q4 => ?_
      have S23 := S2.trans S3
      cases b with
      | false =>
        obtain ⟨k1, k2⟩ := keep S23
        exact ⟨hlt, E0, S, acc, B3, S'.trans S23, k1, T0, k2, q4⟩
      | true =>
        refine he dr Hi σ3 ρ3 E0 E1 _ _ B3 (R3.step S3) q4 fun y yd F0 F1 B4 S4 dy ⟨x, ey, hz, q5⟩ => ?_
        subst ey
        have S24 := S23.trans S4
        obtain ⟨k1, k2⟩ := keep S24
        cases dy with
        | str => exact ⟨x, S, acc, rfl, k1, T0, hz, fun S2 T1 => ⟨hlt, F0, S2, _, B4.upd k2 op (by rw [k1]; exact fun c q => so_ne c q), (S'.trans S24).mut hp, upd_same, T1, k2, q5⟩⟩
    · have e : i = xs.length := by omega
      subst e
      rw [List.drop_length] at q'
      refine .inl ⟨wk.stop H0' H' B' (ok _ _ S'), p, S, acc, rfl, hL, T0, q'.1, fun r hr => ?_⟩
      exact k _ _ H0' _ (B'.new hr) ((S1.trans S').trans (.new hr)) (.own upd_same DvAll.strs (B'.ex.free hr) (B'.out hr) ((S1.trans S').free hr (B'.out hr))) q'.2
theorem ge_sortSC {X : Cx} {fr : Bool} {elt tg iter : Expr} {ifs : List Expr} {scope : Scope} {own : List (Str × Nat)} {wi : TI} {mi : GML} {tG : TG} {g : D → Env → (Env → Prop) → Prop} {is : List Nat} {tt : TT} {mt : GMT} {te : TE} {md : GMD} {p cp pos : Pos} (hc : X.calm = true) (hu : X.A.units + 64 < cLine) (hgl : Gl X "sorted") (hm : X.mg "sorted" = none) (hv : bootBuiltins "sorted" = some (.builtin "sorted")) (hN : X.N.Nodup) (hi : GI fr X tg iter wi mi) (ok : BlkOk X.N X.env.scope scope own)
    (hg : ∀ (s : Shared) (H : Hp) (C : Addr) (cl : List (Str × Addr)) (fp : List Addr), GG (X.blk s H scope (compEnvC scope cl C X.env) fp) tg tG g is) (ht : ∀ (s : Shared) (H : Hp) (C : Addr) (cl : List (Str × Addr)) (fp : List Addr), GTs (X.blk s H scope (compEnvC scope cl C X.env) fp) ifs tt mt)
    (he : ∀ (s : Shared) (H : Hp) (C : Addr) (cl : List (Str × Addr)) (fp : List Addr), GD (X.blk s H scope (compEnvC scope cl C X.env) fp) elt te md) (his : ∀ i ∈ is, i ∈ own.map (·.2) := by decide) (hs : ∀ x, foldedSetIterable iter X.env x = pure x := by intro _; rfl)
    (hst : starEach [.SetComp elt [⟨tg, iter, ifs, 0⟩] scope cp] X.env = [(false, eval (.SetComp elt [⟨tg, iter, ifs, 0⟩] scope cp) X.env)] := by rfl) (hpl : (backTo pos (starEach [.SetComp elt [⟨tg, iter, ifs, 0⟩] scope cp] X.env)).any (·.1) = false := by rfl) :
    GE X (.Call (.Name "sorted" p) [.SetComp elt [⟨tg, iter, ifs, 0⟩] scope cp] [] pos) (tCB (rSortedT X.prog X.w) (tCons (tScT X.prog X.w wi tG tt te (own.map (·.2))) tNil)) (mSortSC mi g mt md (own.map (·.2))) :=
  ⟨pe_callB (cr_sortedT hc hu) hgl hm hv (pa_cons (pe_scT hc hN hi.pi ok (fun s H C cl fp => (hg s H C cl fp).pg) (fun s H C cl fp => (ht s H C cl fp).pt) (fun s H C cl fp => (he s H C cl fp).pe) hs) pa_nil hst) (by decide) (by decide) hst hpl,
    snd_sortSC hi.sn (hg X.s_0 X.H_0 0 [] []).sn his (ht X.s_0 X.H_0 0 [] []).sn (he X.s_0 X.H_0 0 [] []).sn⟩
end GL
end
section
set_option linter.all false
set_option maxRecDepth 100000
set_option maxHeartbeats 2000000
/-! GL23: append to a list that a call has just made. -/
namespace GL
open PySem L2 PySem.Calls PyProof.Rows
variable [TabCx] [XCx]
section
variable {X : Cx} {e o : Expr} {t ta : TE} {ma : GM} {md : GMD} {pos : Pos}
def mAppT (m : GM) (me : GMD) : GMS := fun D ρ => m ρ fun z => ∃ xs, z = .own xs ∧ me ρ fun _ => xs.length < sizeLine ∧ D.nx ρ
theorem gs_appT {name : Str} {apos cpos : Pos} (ho : GE X o ta ma) (he : GD X e t md) (pe : PE X o ta → PE X e t → PE X (.Call (.Attribute o name apos) [e] [] cpos) (tBM X.K "list" rAppend ta (tCons t tNil))) (hs : swapsWith (.Call (.Attribute o name apos) [e] [] cpos) none pos.line X.env = pure false := by rfl) :
    GS X (.Expr (.Call (.Attribute o name apos) [e] [] cpos) pos) (tDrop (tBM X.K "list" rAppend ta (tCons t tNil))) (mAppT ma md) := ⟨ps_expr (pe ho.pe he.pe) hs, fun dr H0i Hi σ ρ H0 H D E B S R L w =>
  ho.sn dr Hi σ ρ H0 H _ _ B R w fun v z A0 A1 B1 S1 zv ⟨xs, ez, w1⟩ => by
    subst ez
    cases zv with
    | own h k h0 o hs =>
      refine ⟨.inl ⟨rfl, _, .of h⟩, ?_⟩
      refine he.sn dr Hi σ ρ A0 A1 _ _ B1 (R.step S1) w1 fun y yd C0 C1 B2 S2 dy ⟨hz, q⟩ => ?_
      refine ⟨_, _, _, rfl, rfl, S2.same h o, by rw [k.length]; exact hz, ?_⟩
      exact L.nx _ _ C0 _ (B2.upd (own_kept S2 h h0 o) o (by rw [S2.same h o]; trivial)) (S.trans ((S1.trans S2).mut hs)) (R.step ((S1.trans S2).mut hs)) q⟩
end
end GL
end
section
set_option linter.all false
set_option maxRecDepth 100000
set_option maxHeartbeats 2000000
/-! GL24: max(.., key=len). -/
namespace GL
open PySem PySem.Spec L2 PySem.Calls PyProof.Rows PySem.W
section
variable {prog : Program} {w : World} {A : Around} {E : Value → Shared → Prop} {s : Shared}
theorem dataLt_int (a b : Int) : dataLt (.int a) (.int b) = decide (a < b) := by
  unfold dataLt
  simp only [keyToks]
  by_cases c : a = b
  · subst c
    rw [lex_self (O := itemOrd)]
    simp [PyProof.Rows.lexLt]
  · rw [lex_diff (O := itemOrd) (by simpa using c)]
    rfl
theorem argBest_first (num : Nat → Int) : ∀ k j, j < argBest (fun i j => decide (num i > num j)) k → num j < num (argBest (fun i j => decide (num i > num j)) k)
  | 0, j, h => by simp [argBest] at h
  | k + 1, j, h => by
    obtain ⟨h1, h2⟩ := argBest_gt num k
    simp only [argBest] at h ⊢
    by_cases hc : num (k + 1) > num (argBest (fun i j => decide (num i > num j)) k)
    · rw [if_pos (by simpa using hc)] at h ⊢
      have := h2 j (by omega)
      omega
    · rw [if_neg (by simpa using hc)] at h ⊢
      exact argBest_first num k j h
theorem max_len {l : Addr} {vs : Array Value} {ns : List Nat} {Q : Value → Shared → Prop} (hh : A.handled = none) (hu : A.units + 64 < cLine) (hl : s.heap.IsList l vs) (hn : 0 < vs.size) (it : ∀ (i : Nat) v, vs[i]? = some v → ∃ a its, v = .ref a ∧ s.heap.IsList a its ∧ its.size = ns.getD i 0 ∧ its.size ≤ sizeLine)
    (h : ∀ (i : Nat) v h' tk, vs[i]? = some v → (∀ j, j < vs.size → ns.getD j 0 ≤ ns.getD i 0) → (∀ j, j < i → ns.getD j 0 < ns.getD i 0) → (∀ b o, s.heap.get? b = some o → h'.get? b = some o) → Q v { s with heap := h', toks := tk }) :
    wpAny (model prog w) A (call (.builtin "max") [.ref l] [(Str.ofString "key", .builtin "len")]) Q E s := by
  refine call_max_walkKB (iter_listW (A := A.in1) hh hl fun s₂ e W st hfp hw hk => ?_)
  have sz : s₂.heap.objs.size = s.heap.objs.size + 1 := by rw [e]; exact Heap.size_push ..
  have old : ∀ b o, s.heap.get? b = some o → b ∉ s₂.heap.objs.size :: [s.heap.objs.size] := fun b o q z => by
    have lt := Heap.lt_size q
    rcases List.mem_cons.mp z with z | z
    · rw [z, sz] at lt; exact absurd lt (Nat.not_lt_of_le (Nat.le_succ _))
    · rw [List.mem_singleton.mp z] at lt; exact Nat.lt_irrefl _ lt
  refine ⟨_, _, _, _, _, _, _, fun s' => (∀ b o, s.heap.get? b = some o → s'.heap.get? b = some o) ∧ s'.gens = s.gens ∧ s'.drawn = s.drawn ∧ s'.os = s.os, fun i k _ => ∃ t, k = Value.int ((ns.getD i 0 : Nat) : Int) t, fun i j => decide (((ns.getD i 0 : Nat) : Int) > ((ns.getD j 0 : Nat) : Int)), rfl, W, st, hfp, hn, ⟨?_, ?_, ?_, ?_⟩, ⟨hk, by rw [e], by rw [e], by rw [e]⟩, fun v s' hP hJ => ?_⟩
  · intro s1 s2 J m
    exact ⟨fun b o q => m.heap b o (old b o q) (J.1 b o q), Eq.trans m.gens J.2.1, m.drawn.trans J.2.2.1, m.os.trans J.2.2.2⟩
  · intro i k s1 s2 V _
    exact V
  · intro i v s1 o Q' E' hi hP J hSt hS hk'
    obtain ⟨a, its, rfl, ha, ea, hz⟩ := it i v hP
    have ha1 : s1.heap.IsList a its := by
      obtain ⟨ob, q1, q2, n, q3⟩ := ha
      exact ⟨ob, J.1 _ _ q1, q2, n, q3⟩
    refine PyProof.Rows.len_list ha1 (by have : sizeLine = 16777216 := rfl; omega) ?_
    rw [ea]
    first
      | exact hk' _ _ ⟨J.1, J.2.1, J.2.2.1, J.2.2.2⟩ hSt hS ⟨_, rfl⟩ (fun _ _ z => z)
      | exact hk' _ _ J hSt hS ⟨_, rfl⟩ (fun _ _ z => z)
  · intro i j ki kj s1 Q' E' J ⟨ti, hi⟩ ⟨tj, hj⟩ hq
    subst hi hj
    refine rcGt_alike _ _ A.in1 s1 _ _ _ _ (.int _ _) (.int _ _) (by simp [alike]) nofun ?_ prog w E' Q' ?_
    · simp only [PyData.depth]
      show A.units + 1 + _ < _
      omega
    · rw [dataLt_int]
      exact hq
  · obtain ⟨h1, h2⟩ := argBest_gt (fun i => ((ns.getD i 0 : Nat) : Int)) (vs.size - 1)
    have es : s' = { s with heap := s'.heap, toks := s'.toks } := by
      obtain ⟨_, g, d, o⟩ := hJ
      cases s'; cases s
      simp only at g d o
      subst g d o
      rfl
    rw [es]
    exact h _ v _ _ hP (fun j hj => by have := h2 j (by omega); omega) (fun j hj => by have := argBest_first (fun i => ((ns.getD i 0 : Nat) : Int)) (vs.size - 1) j hj; omega) hJ.1
end
variable [TabCx] [XCx]
def rMaxLen (K : PySem.W.Frag) : List V → Hp → VK → Prop := fun vs H Q => ∃ (a : Addr) (us : List V) (ps : List (Addr × List V)), vs = [.ref a] ∧ H a = some (.lst us) ∧ us = ps.map (fun p => V.ref p.1) ∧ ps ≠ [] ∧ (∀ p ∈ ps, H p.1 = some (.lst p.2)) ∧ ∀ (i : Nat) p, ps[i]? = some p → (∀ q ∈ ps, q.2.length ≤ p.2.length) → (∀ j q, j < i → ps[j]? = some q → q.2.length < p.2.length) → Q (.ref p.1) H
def tMaxLen (K : PySem.W.Frag) (te : TE) : TE := fun σ H Q => te σ H fun x H1 => rMaxLen K [x] H1 Q
theorem pe_maxLen {X : Cx} {e : Expr} {te : TE} {p lp kp pos : Pos} (hc : X.calm = true) (hu : X.A.units + 64 < cLine) (hg : Gl X "max") (hm : X.mg "max" = none) (hv : bootBuiltins "max" = some (.builtin "max")) (hgl : Gl X "len") (hm2 : X.mg "len" = none) (he : PE X e te)
    (na : backTo pos (starEach [e] X.env) = (false, eval e X.env) :: backTo pos (starEach [] X.env) := by rfl) (na2 : (backTo pos (starEach [e] X.env)).any (·.1) = false := by rfl) (na3 : starEach [e] X.env = (false, eval e X.env) :: starEach [] X.env := by rfl) :
    PE X (.Call (.Name "max" p) [e] [⟨some "key", .Name "len" lp, kp⟩] pos) (tMaxLen X.K te) := by
  refine ⟨fun pins s σ H Q I h => wpAny_Call_Name_kw (ld_blt I hg hm hv ?_)⟩
  refine PyProof.Rows.callWith_kw (PyProof.Rows.args_cons (thn (he.run pins s σ H _ I h) fun v s1 ⟨x, H1, I1, r1, w1⟩ => PyProof.Rows.args_nil ?_) na3) na na2 rfl rfl
  obtain ⟨a, us, ps, ex, hs, eu, ne, hd, w2⟩ := w1
  cases ex
  cases r1
  refine wpAny_evalAll_cons (wpAny_bind (ld_blt I1 hgl hm2 PySem.boot_len ?_))
  refine wpAny_bind (wpAny_standAt (wpAny_pure (wpAny_evalAll_nil ?_)))
  show wpAny _ _ (call (.builtin "max") [.ref a] [(Str.ofString "key", .builtin "len")]) _ _ _
  subst eu
  obtain ⟨hz, its, n, rv, ho⟩ := I1.hok a _ hs
  have ev : its = ps.map fun p => Value.ref p.1 := by
    have : ∀ {ps : List (Addr × List V)} {us : List Value}, Vals (ps.map fun p => V.ref p.1) us → us = ps.map fun p => Value.ref p.1 := by
      intro ps
      induction ps with
      | nil => intro us h; cases h; rfl
      | cons p ps ih =>
        intro us h
        cases h with
        | cons r t =>
          cases r
          rw [ih t]
          rfl
    exact this rv
  have hl : s1.heap.IsList a its.toArray := ⟨_, ho, rfl, n, rfl⟩
  have get : ∀ (i : Nat) v, its.toArray[i]? = some v → ∃ p, ps[i]? = some p ∧ v = .ref p.1 := fun i v hv => by
    rw [List.getElem?_toArray, ev, List.getElem?_map] at hv
    cases q : ps[i]? with
    | none => rw [q] at hv; cases hv
    | some p => rw [q] at hv; exact ⟨p, rfl, (Option.some.inj hv).symm⟩
  have sz : its.toArray.size = ps.length := by rw [List.size_toArray, ev, List.length_map]
  refine max_len (ns := ps.map fun p => p.2.length) (I1.ok.hd hc) hu hl (by rw [sz]; exact List.length_pos_iff.mpr ne) (fun i v hv => ?_) fun i v h' tk hv mx ft kp => ?_
  · obtain ⟨p, hp, rfl⟩ := get i v hv
    obtain ⟨hz2, its2, n2, rv2, ho2⟩ := I1.hok p.1 _ (hd p (List.mem_of_getElem? hp))
    refine ⟨p.1, its2.toArray, rfl, ⟨_, ho2, rfl, n2, rfl⟩, ?_, ?_⟩
    · rw [List.size_toArray, ← rv2.length, List.getD_eq_getElem?_getD, List.getElem?_map, hp]; rfl
    · rw [List.size_toArray, ← rv2.length]; exact hz2
  · obtain ⟨p, hp, rfl⟩ := get i v hv
    refine ⟨.ref p.1, H1, I1.kept kp, rfl, w2 i p hp (fun q hq => ?_) fun j q hj hq => ?_⟩
    · obtain ⟨j, hj⟩ := List.mem_iff_getElem?.mp hq
      have lj : j < ps.length := (List.getElem?_eq_some_iff.mp hj).1
      have := mx j (by rw [sz]; exact lj)
      rw [List.getD_eq_getElem?_getD, List.getElem?_map, hj, List.getD_eq_getElem?_getD, List.getElem?_map, hp] at this
      exact this
    · have := ft j hj
      rw [List.getD_eq_getElem?_getD, List.getElem?_map, hq, List.getD_eq_getElem?_getD, List.getElem?_map, hp] at this
      exact this
/-- max(xs, key=len), xs a list of lists -/
def mMaxLen (m : GM) : GM := fun ρ P => m ρ fun z => ∃ (t : Bool) (xss : List (List D)), z.seq = some (false, xss.map D.lst) ∧ xss ≠ [] ∧ ∀ (i : Nat) xs, xss[i]? = some xs → (∀ ys ∈ xss, ys.length ≤ xs.length) → (∀ j ys, j < i → xss[j]? = some ys → ys.length < xs.length) → P (.d (.lst xs))
theorem dv_lists {H0 : Hp} : ∀ {vs : List V} {xss : List (List D)}, DvAll H0 vs (xss.map D.lst) → ∃ ps : List (Addr × List V), vs = ps.map (fun p => V.ref p.1) ∧ (∀ p ∈ ps, H0 p.1 = some (.lst p.2)) ∧ ps.map (fun p => p.2.length) = xss.map (·.length) ∧ ∀ (i : Nat) p, ps[i]? = some p → ∃ xs, xss[i]? = some xs ∧ Dv H0 (.ref p.1) (.lst xs)
  | _, [], .nil => ⟨[], rfl, (fun _ h => nomatch h), rfl, (fun i p h => by simp at h)⟩
  | _, xs :: xss, .cons h t => by
    obtain ⟨ps, e1, e2, e3, e4⟩ := dv_lists t
    cases h with
    | @lst a vs _ ha da =>
      refine ⟨(a, vs) :: ps, by rw [e1]; rfl, fun p hp => ?_, by rw [List.map_cons, List.map_cons, e3, da.length], fun i p hp => ?_⟩
      · rcases List.mem_cons.mp hp with rfl | hp
        · exact ha
        · exact e2 p hp
      · cases i with
        | zero => cases hp; exact ⟨xs, rfl, .lst ha da⟩
        | succ i => exact e4 i p hp
theorem snd_maxLen {K : PySem.W.Frag} {te : TE} {m : GM} (he : SndE K te m) : SndE K (tMaxLen K te) (mMaxLen m) := fun dr Hi σ ρ H0 H Q P B R w k =>
  he dr Hi σ ρ H0 H _ _ B R w fun v z A0 A1 B1 S1 zv ⟨t, xss, ez, ne, p⟩ => by
    obtain ⟨a, vs, rfl, hl, da⟩ := zv.seq B1 ez
    have hl' := (hide_some hl).1
    obtain ⟨ps, e1, e2, e3, e4⟩ := dv_lists da
    refine ⟨a, vs, ps, rfl, hl', e1, fun e => ?_, fun q hq => B1.ex _ _ (e2 q hq), fun i q hq mx ft => ?_⟩
    · rw [e] at e3
      exact ne (List.map_eq_nil_iff.mp e3.symm)
    · obtain ⟨xs, h1, h2⟩ := e4 i q hq
      have len : ∀ (j : Nat) r ys, ps[j]? = some r → xss[j]? = some ys → r.2.length = ys.length := fun j r ys hr hy => by
        have := congrArg (fun l => l[j]?) e3
        simp only [List.getElem?_map, hr, hy, Option.map_some, Option.some.injEq] at this
        exact this
      have lq := len i q xs hq h1
      refine k _ _ A0 A1 B1 S1 (.d h2) (p i xs h1 (fun ys hys => ?_) fun j ys hj hy => ?_)
      · have : ys.length ∈ ps.map fun p => p.2.length := by rw [e3]; exact List.mem_map.mpr ⟨ys, hys, rfl⟩
        obtain ⟨r, hr, er⟩ := List.mem_map.mp this
        have := mx r hr
        omega
      · have hl2 : j < ps.length := by
          have e5 := congrArg List.length e3
          rw [List.length_map, List.length_map] at e5
          rw [e5]
          exact (List.getElem?_eq_some_iff.mp hy).1
        have := ft j _ hj (List.getElem?_eq_getElem hl2)
        have l2 := len j _ ys (List.getElem?_eq_getElem hl2) hy
        omega
theorem ge_maxLen {X : Cx} {e : Expr} {te : TE} {m : GM} {p lp kp pos : Pos} (hc : X.calm = true) (hu : X.A.units + 64 < cLine) (hg : Gl X "max") (hm : X.mg "max" = none) (hv : bootBuiltins "max" = some (.builtin "max")) (hgl : Gl X "len") (hm2 : X.mg "len" = none) (he : GE X e te m)
    (na : backTo pos (starEach [e] X.env) = (false, eval e X.env) :: backTo pos (starEach [] X.env) := by rfl) (na2 : (backTo pos (starEach [e] X.env)).any (·.1) = false := by rfl) (na3 : starEach [e] X.env = (false, eval e X.env) :: starEach [] X.env := by rfl) :
    GE X (.Call (.Name "max" p) [e] [⟨some "key", .Name "len" lp, kp⟩] pos) (tMaxLen X.K te) (mMaxLen m) := ⟨pe_maxLen hc hu hg hm hv hgl hm2 he.pe na na2 na3, snd_maxLen he.sn⟩
end GL
end
section
set_option linter.all false
set_option maxRecDepth 100000
set_option maxHeartbeats 2000000
/-! GL25: text * number. -/
namespace GL
open PySem PySem.Spec L2 PySem.Calls PyProof.Rows PySem.W
section
variable [TabCx] {X : Cx}
def rMulT : R2 := fun x y H Q => ∃ a n, x = .str a ∧ y = .int n ∧ MulOk a n ∧ Q (.str (Txt.mul a n)) H
theorem op_mulT : OpR X (binaryOp .Mult) rMulT := by
  intro pins s σ H x y v u Q I rx ry h
  obtain ⟨i, j, rfl, rfl, hz, q⟩ := h
  obtain ⟨t, rfl⟩ := rx
  obtain ⟨t', rfl⟩ := ry
  exact SB.mul hz (fun t' tk => ⟨.str (Txt.mul i j), H, I.tok _, ⟨_, rfl⟩, q⟩)
def fMulT : Z → Z → (Z → Prop) → Prop := fun x y P => ∃ a n, x = .d (.str a) ∧ y = .d (.int n) ∧ MulOk a n ∧ P (.d (.str (Txt.mul a n)))
theorem os_mulT : OpS rMulT fMulT := fun dr Hs Hs' H0 H x y zx zy Q P B hx hy w k => by
  obtain ⟨a, n, rfl, rfl, ok, p⟩ := w
  cases hx with
  | d d1 => cases hy with
    | d d2 => cases d1; cases d2; exact ⟨_, _, rfl, rfl, ok, k _ _ H0 H B .refl (.d (.str _)) p⟩
end
end GL
end
section
set_option linter.all false
set_option maxRecDepth 100000
set_option maxHeartbeats 4000000
/-! GL26: sorted(set(xs)) of texts; enumerate. -/
namespace GL
open PySem PySem.Spec PyProof.Rows L2 PySem.Froz PySem.W PySem.F
def insT (acc : List Str) (k : Str) : List Str := if k ∈ acc then acc else k :: acc
theorem insT_len (acc : List Str) (k : Str) : (insT acc k).length ≤ acc.length + 1 := by
  unfold insT
  split <;> simp
section
variable {prog : Program} {w : World} {A : Around} {R : Result → Shared → Prop} {I : Addr} {fp wr : List Addr} {G : Array GenState → Array GenState → Prop} {n : Nat} {P : Nat → Value → Prop} {St : Nat → Shared → Prop}
theorem loopTx (W : WalksS prog w A.in1 I fp wr G n P St) (S : Addr) (hSf : S ∉ fp) (xs : List Str) (hsz : xs.length = n) (hn1 : n ≤ 1000)
    (hval : ∀ i v, P i v → ∃ t, v = .str (xs.getD i Str.empty) t) :
    ∀ (k i : Nat) (s : Shared) (D : SDat) (l : List Str), n - i = k → i ≤ n → St i s → s.heap.get? S = some (sObj "set" D) → TrOk prog w D l → l.length ≤ i →
      (∀ s' D', Moved (S :: wr) G s s' → s'.heap.get? S = some (sObj "set" D') → TrOk prog w D' ((xs.drop i).foldl insT l) → R (.ok (.ret .none)) s') →
      codeAny (model prog w) A (.builtin "set.update.loop" ⟨[.ref S, .ref I], []⟩) R s := by
  have hSw : S ∉ wr := fun h => hSf (W.sub _ h)
  have hsub : ∀ b ∈ wr, b ∈ S :: wr := fun b hb => List.mem_cons_of_mem _ hb
  intro k
  induction k with
  | zero =>
    intro i s D l hk hi hst hS T0 hl hR
    have hin : i = n := by omega
    subst hin
    refine codeAny_builtin PyProof.Rows.F.entry_set_update_loop ?_
    rw [Around.under_plainId PyProof.Rows.F.plain_set_update_loop _]
    show wpAny _ A.in1 (pyNext (.ref I) >>= _) _ _ s
    refine wpAny_bind (W.done s _ _ hst fun s' hm => ?_)
    show wpAny _ A.in1 (ret Value.none) _ _ s'
    refine wpAny_pure (hR s' D (hm.mono hsub) (hm.heap S _ hSw hS) ?_)
    rw [List.drop_of_length_le (by omega)]
    exact T0
  | succ k ih =>
    intro i s D l hk hi hst hS T0 hl hR
    have hlt : i < n := by omega
    refine codeAny_builtin PyProof.Rows.F.entry_set_update_loop ?_
    rw [Around.under_plainId PyProof.Rows.F.plain_set_update_loop _]
    show wpAny _ A.in1 (pyNext (.ref I) >>= _) _ _ s
    refine wpAny_bind (W.item i s _ _ hlt hst fun v s' hP hst' hm => ?_)
    obtain ⟨t, rfl⟩ := hval i v hP
    have hS' : s'.heap.get? S = some (sObj "set" D) := hm.heap S _ hSw hS
    have hx : xs.drop i = xs.getD i Str.empty :: xs.drop (i + 1) := by
      rw [List.drop_eq_getElem_cons (by omega), List.getD_eq_getElem?_getD, List.getElem?_eq_getElem (by omega)]
      rfl
    rw [hx, List.foldl_cons] at hR
    have hb : l.length + 1 < scanBound := Nat.lt_of_le_of_lt (by omega : _ ≤ 1001) (by decide)
    show wpAny _ A.in1 (holding [Value.str (xs.getD i Str.empty) t] (setAdd S (.str (xs.getD i Str.empty) t)) >>= _) _ _ s'
    generalize hy : xs.getD i Str.empty = y at *
    refine wpAny_bind (wpAny_holding ?_)
    unfold setAdd
    refine wpAny_holding ?_
    refine wpAny_bind ((PySem.strKind prog w).pyHash (k := y) (is_str y t) ?_)
    by_cases hk2 : y ∈ l
    · refine add_there (s := { s' with toks := s'.toks + 1 }) hS' T0.tx hk2 (by omega) ?_
      refine wpAny_pure ⟨plainId_quiet PyProof.Rows.F.plain_set_update_loop _, ih (i + 1) _ D (insT l y) (by omega) hlt (W.frame _ s' _ _ hst' (Nat.le_succ _) fun b hb o e => e) hS' (by unfold insT; rw [if_pos hk2]; exact T0) (by unfold insT; rw [if_pos hk2]; omega) fun s'' D' hm'' hS'' T'' => ?_⟩
      exact hR s'' D' (Moved.trans W.gtrans ((hm.mono hsub).then_heap (Nat.le_succ _) fun b o hb e => e) hm'') hS'' T''
    · refine add_x (s := { s' with toks := s'.toks + 1 }) hS' T0.tx hk2 hb ?_
      have T1 := T0.add t hk2
      have sb := Heap.SameBut.update s'.heap S fun _ => sObj "set" (addTx (hashStr w y) (.str y t) D)
      refine wpAny_pure ⟨plainId_quiet PyProof.Rows.F.plain_set_update_loop _, ih (i + 1) _ (addTx (hashStr w y) (.str y t) D) (insT l y) (by omega) hlt (W.frame _ s' _ _ hst' (Nat.le_succ _) fun b hb o e => ?_) (get_upd _ hS' rfl) (by unfold insT; rw [if_neg hk2]; exact T1) (by unfold insT; rw [if_neg hk2]; simp; omega) fun s'' D' hm'' hS'' T'' => ?_⟩
      · rw [sb.2 b (fun h : b = S => hSf (by rw [← h]; exact hb))]; exact e
      · refine hR s'' D' (Moved.trans W.gtrans ((hm.mono hsub).then_heap (Nat.le_succ _) fun b o hb e => ?_) hm'') hS'' T''
        rw [sb.2 b (fun h : b = S => hb (by rw [h]; exact List.mem_cons_self))]; exact e
end
section
variable {prog : Program} {w : World} {A : Around} {E : Value → Shared → Prop} {s : Shared}
theorem new_set (a : Value) {Q₁ : Value → Shared → Prop}
    (h : Q₁ (.ref s.heap.objs.size) { s with heap := s.heap.push (sObj "set" (emptySD w)) }) :
    codeAny (model prog w) A (.call (.builtin "set.__new__") ⟨[.type "set", a], []⟩) (wants Q₁ E) s := by
  refine codeAny_of_tree ?_
  show wpAny _ A.in1 (do checkBuiltinCall "set.__new__" ⟨[.type "set", a], []⟩; again (.builtin "set.__new__" ⟨[.type "set", a], []⟩)) _ _ s
  refine wpAny_bind (wpAny_of_eq (F.newCall_set_1 a) (wpAny_pure ⟨plainId_quiet F.plain_set_new _, codeAny_builtin F.entry_set_new ?_⟩))
  rw [Around.under_plainId F.plain_set_new _]
  unfold Builtin.«set.__new__» Builtin.Frozenset.newClass
  have hsub := sub_set_self
  obtain ⟨hp, g, d, tk, os⟩ := s
  dsimp only
  wp_walk
  refine wpAny_askSetting (wpAny_pure ?_)
  dsimp only
  simp only [newObj]
  refine wpAny_bind (wpAny_alloc (wpAny_pure ?_))
  exact wpAny_pure h
/-- set(xs), xs a tuple of texts -/
theorem call_setT {l : Addr} {items : Array Value} {xs : List Str} {Q : Value → Shared → Prop} (hh : A.handled = none) (hl : s.heap.IsTuple l items) (hi : PyProof.Rows.StrsAre items.toList xs) (hn : xs.length ≤ 1000)
    (h : ∀ (h' : Heap) (tk : Nat) (D : SDat), h'.get? s.heap.objs.size = some (sObj "set" D) → TrOk prog w D (xs.foldl insT []) → (∀ b o, b < s.heap.objs.size → s.heap.get? b = some o → h'.get? b = some o) → Q (.ref s.heap.objs.size) { s with heap := h', toks := tk }) :
    wpAny (model prog w) A (call (.type "set") [.ref l]) Q E s := by
  have kc := PySem.F.called_set
  obtain ⟨c, tl, hmro⟩ := kc.mro
  have hmade := kc.made
  have hsub := kc.sub
  refine wpAny_call (codeAny_of_tree ?_)
  show wpAny _ _ (callAny (.type "set") _) _ _ _
  refine wpAny_pure ⟨Code.quiet_builtin _ (by decide +kernel), codeAny_builtin PySem.F.entry_type_call ?_⟩
  rw [Around.under_plain (weight_type_call_type "set" [.ref l] []) rfl]
  have h1 := kc.notType
  have h2 := kc.canCreate
  have hct := PySem.F.typeCall_set_1 (.ref l)
  repeat (any_goals (first | assumption | wp_step))
  refine codeAny_mono (new_set (.ref l) (E := E) (Q₁ := fun obj s₁ => obj = .ref s.heap.objs.size ∧ s₁ = { s with heap := s.heap.push (sObj "set" (emptySD w)) }) ⟨rfl, rfl⟩) fun r s₁ hr => ?_
  cases r with
  | error e => exact hr
  | ok fl =>
    cases fl with
    | ret obj =>
      obtain ⟨rfl, rfl⟩ := hr
      have hS : (s.heap.push (sObj "set" (emptySD w))).get? s.heap.objs.size = some (sObj "set" (emptySD w)) := Heap.get?_push_size _ rfl
      have hT : Shared.TypeIs { s with heap := s.heap.push (sObj "set" (emptySD w)) } (.ref s.heap.objs.size) "set" := ⟨_, hS, rfl⟩
      have hli := kc.init.lookup
      have hbi := kc.init.bind (.ref s.heap.objs.size)
      repeat (any_goals (first | assumption | wp_step))
      refine codeAny_mono (codeAny_call_builtin (R := wants (fun r s₂ => r = .none ∧ ∃ h' tk D, s₂ = { s with heap := h', toks := tk } ∧ h'.get? s.heap.objs.size = some (sObj "set" D) ∧ TrOk prog w D (xs.foldl insT []) ∧
          (∀ b o, b < s.heap.objs.size → s.heap.get? b = some o → h'.get? b = some o)) E) kc.init.plain PySem.F.entry_set_init (check_set_init_1 hT ?_)) fun r₂ s₂ hr₂ => ?_
      · obtain ⟨ol, hol, hcl, nl, hdl⟩ := hl
        obtain ⟨ocls, odict, odata, oslots⟩ := ol
        simp only at hcl hdl
        subst hcl; subst hdl
        have hol' : (s.heap.push (sObj "set" (emptySD w))).get? l = some { cls := .type "tuple", dict := odict, data := .seq items nl, slots := oslots } := Heap.get?_push_of_some _ hol
        have hsls := PySem.F.sub_tuple_set
        have hslf := PySem.F.sub_tuple_frozenset
        have hne : (Value.type "tuple" == Value.type "dict") = false := by decide
        have hl1 : (s.heap.push (sObj "set" (emptySD w))).IsTuple l items := ⟨_, hol', rfl, nl, rfl⟩
        have hlS : l < s.heap.objs.size := Heap.lt_size hol
        have hh3 : A.in1.in1.in1.handled = none := by simp [hh]
        have hneI : l ≠ (s.heap.push (sObj "set" (emptySD w))).objs.size := by
          rw [Heap.size_push]; exact Nat.ne_of_lt (Nat.lt_succ_of_lt hlS)
        have hSf : s.heap.objs.size ∉ [(s.heap.push (sObj "set" (emptySD w))).objs.size, l] := by
          rw [Heap.size_push]; simp only [List.mem_cons, List.not_mem_nil, or_false, not_or]
          exact ⟨Nat.ne_of_lt (Nat.lt_succ_self _), Nat.ne_of_gt hlS⟩
        have hsz : xs.length = items.size := by rw [← StrsAre.len_eq hi, Array.length_toList]
        have hval : ∀ (i : Nat) (v : Value), items[i]? = some v → ∃ t, v = .str (xs.getD i Str.empty) t := fun i v hv => SS.strs_at hi i v (by rw [Array.getElem?_toList]; exact hv)
        unfold Builtin.«set.__init__» noKeywords Builtin.Frozenset.updateFrom
        generalize hPI : pyIter = PI
        wp_walk
        subst hPI
        refine wpAny_pyIter_tuple hl1 ?_
        refine wpAny_bind (wpAny_runValue ?_)
        refine loopTx ((Walks.tuple hh3 _ l hneI items).toS) s.heap.objs.size hSf xs hsz (by rw [← hsz]; exact hn) hval (items.size - 0) 0 _ (emptySD w) [] (by omega) (Nat.zero_le _)
          ⟨⟨_, Heap.get?_push_size _ rfl, rfl, rfl⟩, (hl1.push _)⟩ (Heap.get?_push_of_some _ hS) trOk_nil (Nat.zero_le _) ?_
        intro s' D hm hS' T0
        obtain ⟨h', g', d', tk', os'⟩ := s'
        have eg : g' = s.gens := hm.gens
        have ed : d' = s.drawn := hm.drawn
        have eo : os' = s.os := hm.os
        subst eg; subst ed; subst eo
        show wpAny _ _ _ _ _ _
        refine wpAny_pure ?_
        show wpAny _ _ (ret Value.none) _ _ _
        refine wpAny_pure ⟨rfl, h', tk', D, rfl, hS', T0, fun b o hb e => ?_⟩
        have hb2 : b ≠ (s.heap.push (sObj "set" (emptySD w))).objs.size := by
          rw [Heap.size_push]; exact Nat.ne_of_lt (Nat.lt_succ_of_lt hb)
        exact hm.heap b o (by simp only [List.mem_cons, List.not_mem_nil, or_false, not_or]; exact ⟨Nat.ne_of_lt hb, hb2⟩) (Heap.get?_push_of_some _ (Heap.get?_push_of_some _ e))
      · cases r₂ with
        | error e => exact hr₂
        | ok fl₂ =>
          cases fl₂ with
          | ret r =>
            obtain ⟨rfl, h', tk, D, rfl, hS', T0, hk'⟩ := hr₂
            repeat (any_goals (first | assumption | wp_step))
            exact h _ _ D hS' T0 hk'
          | _ => exact hr₂.elim
    | _ => exact hr.elim
end
end GL
end
section
set_option linter.all false
set_option maxRecDepth 100000
set_option maxHeartbeats 4000000
/-! GL27: sorted(set(xs)), enumerate(xs) as rules of the layer. -/
namespace GL
open PySem PySem.Spec PyProof.Rows L2 PySem.Froz PySem.W
theorem vals_strs : ∀ {xs : List Str} {its : List Value}, Vals (xs.map V.str) its → StrsAre its xs
  | [], _, h => by cases h; exact .nil
  | x :: xs, _, h => by
    cases h with
    | cons r t =>
      obtain ⟨tk, rfl⟩ := r
      exact .cons x tk (vals_strs t)
def rSetT (P : Program) (w : World) (K : PySem.W.Frag) : List V → Hp → VK → Prop := fun vs H Q => ∃ (l : Addr) (xs : List Str), vs = [.ref l] ∧ SqT K H l (xs.map V.str) ∧ xs.length ≤ 1000 ∧ ∀ p D, H p = none → TrOk P w D (xs.foldl insT []) → Q (.ref p) (L2.upd H p (SO p D))
theorem cr_setT {X : Cx} (hc : X.calm = true) : CallR X (.type "set") (rSetT X.prog X.w X.K) := by
  intro pins s σ H vs us Q I r h
  obtain ⟨l, xs, rfl, hq, hz, q⟩ := h
  rw [Vals.ref1 r]
  obtain ⟨its, rv, p, hz2⟩ := I.tuple hq
  refine call_setT (I.ok.hd hc) (show s.heap.IsTuple l its.toArray from p) (vals_strs rv) hz fun h' tk D g T0 k => ?_
  exact ⟨.ref _, L2.upd H s.heap.objs.size (SO s.heap.objs.size D), I.laid (t' := tk) (fun b o e => k b o (Heap.lt_size e) e) (Nat.le_refl _) (so_new g), rfl, q _ D (I.hok.fresh (Nat.le_refl _)) T0⟩
theorem fold_insT_len : ∀ (xs acc : List Str), (xs.foldl insT acc).length ≤ acc.length + xs.length
  | [], acc => by simp
  | x :: xs, acc => by
    have h1 := fold_insT_len xs (insT acc x)
    have h2 := insT_len acc x
    rw [List.foldl_cons, List.length_cons]
    omega
variable [TabCx] [XCx]
def mSortSet (m : GM) : GM := fun ρ P => m ρ fun z => ∃ xs : List Str, z = .d (.tup (xs.map D.str)) ∧ xs.length ≤ 1000 ∧ P (.own ((sortN (xs.foldl insT [])).map D.str))
theorem snd_sortSet {P' : Program} {w' : World} {K : PySem.W.Frag} {te : TE} {m : GM} (he : SndE K te m) : SndE K (tCB (rSortedT P' w') (tCons (tCB (rSetT P' w' K) (tCons te tNil)) tNil)) (mSortSet m) :=
  fun dr Hi σ ρ H0 H Q P B R w k => he dr Hi σ ρ H0 H _ _ B R w fun v z A0 A1 B1 S1 zv ⟨xs, e, hz, p⟩ => by
    subst e
    cases zv with
    | d d1 =>
      cases d1 with
      | tup hq da =>
        have ev := DvAll.strs_of da
        subst ev
        refine ⟨_, xs, rfl, .of (B1.ex _ _ hq), hz, fun q D hq2 T0 => ⟨q, D, _, rfl, upd_same, T0, ?_, fun r hr => ?_⟩⟩
        · have := fold_insT_len xs []
          exact Nat.lt_of_le_of_lt (by simp at this; omega : _ ≤ 1000) (by decide)
        · have B2 : Bas dr A0 (L2.upd A1 q (SO q D)) := B1.new hq2
          have S2 : Step dr H0 H A0 (L2.upd A1 q (SO q D)) := S1.trans (.new hq2)
          exact k _ _ A0 _ (B2.new hr) (S2.trans (.new hr)) (.own upd_same DvAll.strs (B2.ex.free hr) (B2.out hr) (S2.free hr (B2.out hr))) p
theorem ge_sortSet {X : Cx} {e : Expr} {te : TE} {m : GM} {p p2 q pos : Pos} (hc : X.calm = true) (hu : X.A.units + 64 < cLine) (hgl : Gl X "sorted") (hm : X.mg "sorted" = none) (hg2 : Gl X "set") (hm2 : X.mg "set" = none) (he : GE X e te m)
    (hs2 : starEach [e] X.env = (false, eval e X.env) :: starEach [] X.env := by rfl) (hp2 : (backTo q (starEach [] X.env)).any (·.1) = false := by rfl)
    (hst : starEach [.Call (.Name "set" p2) [e] [] q] X.env = [(false, eval (.Call (.Name "set" p2) [e] [] q) X.env)] := by rfl) (hpl : (backTo pos (starEach [.Call (.Name "set" p2) [e] [] q] X.env)).any (·.1) = false := by rfl) :
    GE X (.Call (.Name "sorted" p) [.Call (.Name "set" p2) [e] [] q] [] pos) (tCB (rSortedT X.prog X.w) (tCons (tCB (rSetT X.prog X.w X.K) (tCons te tNil)) tNil)) (mSortSet m) :=
  ⟨pe_callB (cr_sortedT hc hu) hgl hm (by decide +kernel) (pa_cons (pe_callTy (cr_setT hc) hg2 hm2 (by decide +kernel) (pa_cons he.pe pa_nil hs2) (by decide) (by decide) hs2 hp2) pa_nil hst) (by decide) (by decide) hst hpl, snd_sortSet he.sn⟩
/-! ### enumerate -/
def enD (i : Nat) : List D → List D
  | [] => []
  | x :: xs => .tup [.int (i : Nat), x] :: enD (i + 1) xs
theorem enD_len : ∀ (i : Nat) (xs : List D), (enD i xs).length = xs.length
  | _, [] => rfl
  | i, x :: xs => by rw [enD, List.length_cons, List.length_cons, enD_len]
theorem enD_get : ∀ (xs : List D) (k i : Nat) (y : D), (enD k xs)[i]? = some y → ∃ x, xs[i]? = some x ∧ y = .tup [.int ((k + i : Nat) : Int), x]
  | x :: xs, k, 0, y, h => by
    cases h
    exact ⟨x, rfl, rfl⟩
  | x :: xs, k, i + 1, y, h => by
    obtain ⟨z, h1, h2⟩ := enD_get xs (k + 1) i y h
    exact ⟨z, h1, by rw [h2, show k + 1 + i = k + (i + 1) by omega]⟩
theorem wk_enum {K : PySem.W.Frag} {dr : Option Dr} {ok : Hp → Hp → Prop} {p : Addr} {vs : List V} {xs : List D} (h : ∀ C0 C, Bas dr C0 C → ok C0 C → C p = some (.lst vs) ∧ DvAll C0 vs xs) : Wk (Ite K p) dr ok (enD 0 xs) where
  stop := fun C0 C B o => by
    obtain ⟨h1, h2⟩ := h C0 C B o
    exact ⟨vs, .of h1, by rw [h2.length, enD_len]; exact Nat.le_refl _⟩
  go := fun i C0 C hi B o => by
    obtain ⟨h1, h2⟩ := h C0 C B o
    rw [enD_len] at hi
    have hv : i < vs.length := by rw [h2.length]; exact hi
    exact ⟨vs, vs[i], .of h1, List.getElem?_eq_getElem hv⟩
  yld := fun i y C0 C v C' hx B o yy => by
    obtain ⟨h1, h2⟩ := h C0 C B o
    obtain ⟨T, u, e, hT, eC, g⟩ := yy
    subst e; subst eC
    obtain ⟨d, hd, dv⟩ := h2.getV (g vs (.of h1))
    obtain ⟨x, hx2, ey⟩ := enD_get xs 0 i y hx
    rw [hd] at hx2; cases hx2
    subst ey
    refine ⟨L2.upd C0 T (.tup [.int (i : Nat), u]), B.newz hT, .newz (B.ex.free hT) hT, .tup upd_same ?_⟩
    rw [Nat.zero_add]
    exact .cons (.int _) (.cons (dv.mono (same_upd (B.ex.free hT))) .nil)
def mEnum (m : GMD) : GML := fun ρ P => m ρ fun x => ∃ xs, x = .lst xs ∧ P (enD 0 xs)
theorem gi_enum {X : Cx} {e : Expr} {te : TE} {md : GMD} {p pos tpos : Pos} {elts : List Expr} {kk : Nat} (hg : Gl X "enumerate") (hm : X.mg "enumerate" = none) (he : GD X e te md) (hs : starEach [e] X.env = [(false, eval e X.env)] := by rfl) :
    GI true X (.Tuple elts kk tpos) (.Call (.Name "enumerate" p) [e] [] pos) (iEnum X.K (tCons te tNil)) (mEnum md) := ⟨pi_enum hg hm (pa_cons he.pe pa_nil hs) hs, fun dr Hi σ ρ H0 H R P B Rr w k =>
  he.sn dr Hi σ ρ H0 H _ _ B Rr w fun v x A0 A1 B1 S1 dv ⟨xs, e, p⟩ => by
    subst e
    cases dv with
    | lst hq da => exact ⟨_, _, rfl, .of (B1.ex _ _ hq), k _ _ A0 A1 B1 S1 (wk_enum fun C0 C B' (o : Same A0 C0) => ⟨B'.ex _ _ (o _ _ hq), da.mono o⟩) p⟩⟩
/-! ### a is not b, of truth values -/
def rNB : R2 := fun x y H Q => ∃ a b, x = .bl a ∧ y = .bl b ∧ Q (.bl (!decide (a = b))) H
theorem op_nb {X : Cx} : OpR X (compareOp .IsNot) rNB := op_isnot_bl
def fNB : Z → Z → (Z → Prop) → Prop := fun x y P => ∃ a b, x = .d (.bl a) ∧ y = .d (.bl b) ∧ P (.d (.bl (!decide (a = b))))
theorem os_nb : OpS rNB fNB := fun dr Hs Hs' H0 H x y zx zy Q P B hx hy w k => by
  obtain ⟨a, b, rfl, rfl, p⟩ := w
  cases hx with
  | d d1 => cases hy with
    | d d2 => cases d1; cases d2; exact ⟨_, _, rfl, rfl, k _ _ H0 H B .refl (.d (.bl _)) p⟩
end GL
end
section
set_option linter.all false
set_option maxRecDepth 100000
set_option maxHeartbeats 4000000
/-! GL28: xs.index(y) of texts, xs * n. -/
namespace GL
open PySem PySem.Spec PyProof.Rows L2 PySem.Froz PySem.W
variable [TabCx] [XCx]
/-! ### xs * n -/
theorem dv_rep {H : Hp} {vs : List V} {xs : List D} (h : DvAll H vs xs) : ∀ n, DvAll H (List.replicate n vs).flatten (List.replicate n xs).flatten
  | 0 => .nil
  | n + 1 => by
    rw [List.replicate_succ, List.replicate_succ, List.flatten_cons, List.flatten_cons]
    exact h.append (dv_rep h n)
def fRep : Z → Z → (Z → Prop) → Prop := fun x y P => ∃ xs k, x.seq = some (false, xs) ∧ y = .d (.int k) ∧ 0 ≤ k ∧ k ≤ 1000000 ∧ xs.length * k.toNat ≤ sizeLine ∧ P (.own (List.replicate k.toNat xs).flatten)
theorem os_rep : OpS rRep fRep := fun dr Hs Hs' H0 H x y zx zy Q P B hx hy w k => by
  obtain ⟨xs, i, ex, rfl, h0, h1, hl, p⟩ := w
  obtain ⟨q, vs, rfl, hq, da⟩ := hx.seq B ex
  cases hy with
  | d d2 =>
    cases d2
    refine ⟨q, i, vs, rfl, rfl, (hide_some hq).1, by omega, by omega, by rw [da.length]; exact hl, fun r hr => ?_⟩
    exact k _ _ H0 _ (B.new hr) (.new hr) (.own upd_same (dv_rep da _) (B.ex.free hr) (B.out hr) hr) p
/-! ### xs.index(y) -/
def mIndex (m ma : GM) : GM := fun ρ P => m ρ fun z => ∃ ys : List Str, z.seq = some (false, ys.map D.str) ∧ ma ρ fun x => ∃ y j, x = .d (.str y) ∧ ys[j]? = some y ∧ (∀ i, i < j → ys[i]? ≠ some y) ∧ P (.d (.int (j : Nat)))
theorem snd_index {K : PySem.W.Frag} {to te : TE} {m ma : GM} (ho : SndE K to m) (he : SndE K te ma) : SndE K (tBM K "list" (rIndex K) to (tCons te tNil)) (mIndex m ma) :=
  fun dr Hi σ ρ H0 H Q P B R w k => ho dr Hi σ ρ H0 H _ _ B R w fun v z A0 A1 B1 S1 zv ⟨ys, ez, w1⟩ => by
    obtain ⟨q, vs, ev, hq, da⟩ := zv.seq B1 ez
    refine ⟨?_, he dr Hi σ ρ A0 A1 _ _ B1 (R.step S1) w1 fun x zx C0 C1 B2 S2 zx2 ⟨y, j, ex, hj, hn, p⟩ => ?_⟩
    · rw [ev]
      exact .inl ⟨rfl, vs, .of (hide_some hq).1⟩
    · subst ex
      obtain ⟨q2, vs2, ev2, hq2, da2⟩ := (zv.step S2).seq B2 ez
      cases zx2 with
      | d d2 =>
        cases d2
        have e2 := DvAll.strs_of da2
        subst e2
        refine ⟨q2, _, .str y, j, .str y, ev2, rfl, .of (hide_some hq2).1, rfl, ?_, ?_, ?_, ?_, k _ _ C0 C1 B2 (S1.trans S2) (.d (.int _)) p⟩
        · rw [List.all_map]
          exact List.all_eq_true.mpr fun _ _ => rfl
        · rw [List.getElem?_map, hj]; rfl
        · show (y == y) = true
          exact beq_self_eq_true y
        · intro i u hi hu
          rw [List.getElem?_map] at hu
          cases q : ys[i]? with
          | none => rw [q] at hu; cases hu
          | some s =>
            rw [q] at hu
            cases hu
            show (s == y) = false
            refine beq_eq_false_iff_ne.mpr fun e => hn i hi (by rw [q, e])
theorem ge_index {X : Cx} {o e : Expr} {to te : TE} {m ma : GM} {apos cpos : Pos} (ho : GE X o to m) (he : GE X e te ma)
    (hbase : attributeBase o "index" X.env (eval o X.env) = eval o X.env := by rfl)
    (hfew : ((backTo cpos (starEach [e] X.env)).all (fun x => !x.1) && (backToKw cpos (keywordEach [] X.env)).all (fun x => x.1.isSome)
      && decide (([e] : List Expr).length + ([] : List Keyword).length + (if ([] : List Keyword).isEmpty then 0 else 1) < 30)) = true := by rfl)
    (hline : (apos.endLine == cpos.line) = true := by rfl) (hs : starEach [e] X.env = (false, eval e X.env) :: starEach [] X.env := by rfl) (hplain : (backTo cpos (starEach [] X.env)).any (·.1) = false := by rfl) :
    GE X (.Call (.Attribute o "index" apos) [e] [] cpos) (tBM X.K "list" (rIndex X.K) to (tCons te tNil)) (mIndex m ma) :=
  ⟨pe_bm PySem.F.plainAttrs_list PySem.F.slot_list_index PySem.F.type_list_index mt_index ho.pe (pa_cons he.pe pa_nil hs) hbase hfew hline hs hplain, snd_index ho.sn he.sn⟩
end GL
end
section
set_option linter.all false
set_option maxRecDepth 100000
set_option maxHeartbeats 4000000
/-! GL29: range with a step. -/
namespace GL
open PySem PySem.Spec PyProof.Rows L2 PySem.Froz PySem.W
variable [TabCx] [XCx]
def rngC (lo c : Int) (n : Nat) : List D := (List.range n).map fun (k : Nat) => D.int (lo + (k : Int) * c)
theorem wk_rngC {dr : Option Dr} {ok : Hp → Hp → Prop} {lo c : Int} {n : Nat} : Wk (Itc lo c n) dr ok (rngC lo c n) where
  stop := fun C0 C B o => by
    show n ≤ (rngC lo c n).length
    simp [rngC]
  go := fun i C0 C hi B o => by
    show i < n
    simpa [rngC] using hi
  yld := fun i x C0 C v C' hx B o y => by
    obtain ⟨e, y⟩ := y
    subst e; subst y
    have hn : i < n := by
      have := (List.getElem?_eq_some_iff.mp hx).1
      simpa [rngC] using this
    have e : x = D.int (lo + (i : Int) * c) := by
      unfold rngC at hx
      rw [List.getElem?_map, List.getElem?_range hn] at hx
      cases hx; rfl
    subst e
    exact ⟨C0, B, .refl, .int _⟩
def mRng3 (m : GMA) : GML := fun ρ P => m ρ fun zs => ∃ (i j c : Int) (n : Nat), zs = [.d (.int i), .d (.int j), .d (.int c)] ∧ RgC i j c n ∧ P (rngC i c n)
theorem gi_rng3 {X : Cx} {tg a b c : Expr} {p pos : Pos} {tl : TA} {mz : GMA} (hg : Gl X "range") (hm : X.mg "range" = none) (ha : GA X [a, b, c] tl mz)
    (hs : starEach [a, b, c] X.env = (false, eval a X.env) :: starEach [b, c] X.env := by rfl) (hpl : (backTo pos (starEach [b, c] X.env)).any (·.1) = false := by rfl) :
    GI true X tg (.Call (.Name "range" p) [a, b, c] [] pos) (iRng3 tl) (mRng3 mz) := ⟨pi_range3 hg hm ha.pa hs hpl, fun dr Hi σ ρ H0 H R P B Rr w k =>
  ha.sn dr Hi σ ρ H0 H _ _ B Rr w fun vs zs A0 A1 B1 S1 z1 ⟨i, j, c, n, e, h1, q⟩ => by
    subst e
    cases z1 with
    | cons z1 zr => cases zr with
      | cons z2 zr => cases zr with
        | cons z3 zr =>
          cases zr
          cases z1 with
          | d d1 => cases z2 with
            | d d2 => cases z3 with
              | d d3 =>
                cases d1; cases d2; cases d3
                exact ⟨i, j, c, n, rfl, h1, k _ _ A0 A1 B1 S1 wk_rngC q⟩⟩
end GL
end
section
set_option linter.all false
set_option maxRecDepth 100000
set_option maxHeartbeats 4000000
namespace GL
open PySem L2 PySem.W PyProof.Rows PySem.SeqAt
section
variable {prog : Program} {w : World} {A : Around} {E : Value → Shared → Prop} {s : Shared}
theorem min_seqD {l : Addr} {vs : Array Value} {d : Value} {xs : List PyData} {as : List Addr} {Q : Value → Shared → Prop} (hh : A.handled = none) (hl : s.heap.IsList l vs) (hr : ReadsAll s.heap vs.toList xs as) (ha : AlikeAll xs) (hu : A.units + 1 + PyData.depthAll xs < cLine)
    (h0 : xs = [] → ∀ h' tk, (∀ b o, s.heap.get? b = some o → h'.get? b = some o) → Q d { s with heap := h', toks := tk })
    (h : ∀ (x : PyData) (ys : List PyData), xs = x :: ys → ∀ (i : Nat) v h' tk, vs[i]? = some v → xs.getD i .none = minD x ys → (∀ b o, s.heap.get? b = some o → h'.get? b = some o) → Q v { s with heap := h', toks := tk }) :
    wpAny (model prog w) A (call (.builtin "min") [.ref l] [(Str.ofString "default", d)]) Q E s := by
  have hn : vs.size = xs.length := readsAll_len hr
  refine call_min_walkD (iter_listW (A := A.in1) hh hl fun s₂ e W st hfp hw hk => ?_)
  refine ⟨_, _, _, _, _, _, _, s.heap, _, rfl, W, st, hfp, hw, hk, fun z s' m => ?_, fun z => ⟨cmpIn_lt (A := A.in1) hr ha (by show A.units + 1 + _ < _; exact hu), fun v s' hP m => ?_⟩⟩
  · obtain ⟨h', tk, rfl, hk'⟩ := moved_old e rfl m
    exact h0 (List.length_eq_zero_iff.mp (by omega)) h' tk hk'
  · obtain ⟨h', tk, rfl, hk'⟩ := moved_old e rfl m
    cases xs with
    | nil => rw [hn] at z; exact absurd z (Nat.lt_irrefl 0)
    | cons x ys =>
      have hn' : vs.size = ys.length + 1 := hn
      have e1 : vs.size - 1 = ys.length := by omega
      have e2 := (argBest_fold dataLt PyData.none x ys ys.length (Nat.le_refl _)).2
      rw [List.take_length] at e2
      refine h x ys rfl _ v h' tk hP ?_ hk'
      rw [e1]
      exact e2
theorem max_seqD {l : Addr} {vs : Array Value} {d : Value} {xs : List PyData} {as : List Addr} {Q : Value → Shared → Prop} (hh : A.handled = none) (hl : s.heap.IsList l vs) (hr : ReadsAll s.heap vs.toList xs as) (ha : AlikeAll xs) (hu : A.units + 1 + PyData.depthAll xs < cLine)
    (h0 : xs = [] → ∀ h' tk, (∀ b o, s.heap.get? b = some o → h'.get? b = some o) → Q d { s with heap := h', toks := tk })
    (h : ∀ (x : PyData) (ys : List PyData), xs = x :: ys → ∀ (i : Nat) v h' tk, vs[i]? = some v → xs.getD i .none = maxD x ys → (∀ b o, s.heap.get? b = some o → h'.get? b = some o) → Q v { s with heap := h', toks := tk }) :
    wpAny (model prog w) A (call (.builtin "max") [.ref l] [(Str.ofString "default", d)]) Q E s := by
  have hn : vs.size = xs.length := readsAll_len hr
  refine call_max_walkD (iter_listW (A := A.in1) hh hl fun s₂ e W st hfp hw hk => ?_)
  refine ⟨_, _, _, _, _, _, _, s.heap, _, rfl, W, st, hfp, hw, hk, fun z s' m => ?_, fun z => ⟨cmpIn_gt (A := A.in1) hr ha (by show A.units + 1 + _ < _; exact hu), fun v s' hP m => ?_⟩⟩
  · obtain ⟨h', tk, rfl, hk'⟩ := moved_old e rfl m
    exact h0 (List.length_eq_zero_iff.mp (by omega)) h' tk hk'
  · obtain ⟨h', tk, rfl, hk'⟩ := moved_old e rfl m
    cases xs with
    | nil => rw [hn] at z; exact absurd z (Nat.lt_irrefl 0)
    | cons x ys =>
      have hn' : vs.size = ys.length + 1 := hn
      have e1 : vs.size - 1 = ys.length := by omega
      have e2 := (argBest_fold (fun a b => dataLt b a) PyData.none x ys ys.length (Nat.le_refl _)).2
      rw [List.take_length] at e2
      refine h x ys rfl _ v h' tk hP ?_ hk'
      rw [e1]
      exact e2
end
variable [TabCx] [XCx]
/-- min or max of a list, with a default -/
def bestD (mx : Bool) (x : PyData) (xs : List PyData) : PyData := if mx then maxD x xs else minD x xs
def rBest (mx : Bool) (K : PySem.W.Frag) (vd : V) : List V → Hp → VK → Prop := fun vs H Q => ∃ (a : Addr) (us : List V) (xs : List PyData), vs = [.ref a] ∧ H a = some (.lst us) ∧ DpAll K H us xs ∧ AlikeAll xs ∧ PyData.depthAll xs ≤ 60 ∧
  (xs = [] → Q vd H) ∧ ∀ (x : PyData) (ys : List PyData), xs = x :: ys → ∀ (i : Nat) (u : V), us[i]? = some u → xs.getD i .none = bestD mx x ys → Q u H
def tBest (mx : Bool) (K : PySem.W.Frag) (vd : V) (te : TE) : TE := fun σ H Q => te σ H fun x H1 => rBest mx K vd [x] H1 Q
def nmB (mx : Bool) : Str := if mx then "max" else "min"
theorem pe_best (mx : Bool) {X : Cx} {e ed : Expr} {te : TE} {vd : V} {p kp pos : Pos} {xn : Str} (hxn : xn = nmB mx) (hc : X.calm = true) (hu : X.A.units + 64 < cLine) (hg : Gl X xn) (hm : X.mg xn = none) (he : PE X e te) (hd : PE X ed (tC vd))
    (na : backTo pos (starEach [e] X.env) = (false, eval e X.env) :: backTo pos (starEach [] X.env) := by rfl) (na2 : (backTo pos (starEach [e] X.env)).any (·.1) = false := by rfl) (na3 : starEach [e] X.env = (false, eval e X.env) :: starEach [] X.env := by rfl) :
    PE X (.Call (.Name xn p) [e] [⟨some "default", ed, kp⟩] pos) (tBest mx X.K vd te) := by
  subst hxn
  refine ⟨fun pins s σ H Q I h => wpAny_Call_Name_kw (ld_blt (u := .builtin (if mx then "max" else "min")) I hg hm (by cases mx <;> decide +kernel) ?_ (by cases mx <;> decide) (by cases mx <;> decide))⟩
  refine PyProof.Rows.callWith_kw (PyProof.Rows.args_cons (thn (he.run pins s σ H _ I h) fun v s1 ⟨x, H1, I1, r1, w1⟩ => PyProof.Rows.args_nil ?_) na3) na na2 rfl rfl
  obtain ⟨a, us, xs, ex, hs, hdp, hal, hdep, q0, q1⟩ := w1
  cases ex
  cases r1
  refine wpAny_evalAll_cons (wpAny_bind (thn (hd.run pins s1 σ H1 (fun v H' => v = vd ∧ H' = H1) I1 ⟨rfl, rfl⟩) fun vk s2 ⟨xk, H2, I2, rk, ek, eh⟩ => ?_))
  subst ek eh
  refine wpAny_bind (wpAny_standAt (wpAny_pure (wpAny_evalAll_nil ?_)))
  obtain ⟨hz, its, n, rv, ho⟩ := I2.hok a _ hs
  obtain ⟨as, ra⟩ := Dp.readsAll I2 _ _ _ hdp rv
  have hl : s2.heap.IsList a its.toArray := ⟨_, ho, rfl, n, rfl⟩
  have hu' : X.A.units + 1 + PyData.depthAll xs < cLine := by omega
  cases mx with
  | true =>
    show wpAny _ _ (call (.builtin "max") [.ref a] [(Str.ofString "default", vk)]) _ _ _
    refine max_seqD (I2.ok.hd hc) hl ra hal hu' (fun e0 h' tk hk => ⟨xk, H2, I2.kept hk, rk, q0 e0⟩) fun x ys ex i v h' tk hv e hk => ?_
    obtain ⟨u, hu', ru⟩ := vals_at rv (by simpa using hv)
    exact ⟨u, H2, I2.kept hk, ru, q1 x ys ex i u hu' e⟩
  | false =>
    show wpAny _ _ (call (.builtin "min") [.ref a] [(Str.ofString "default", vk)]) _ _ _
    refine min_seqD (I2.ok.hd hc) hl ra hal hu' (fun e0 h' tk hk => ⟨xk, H2, I2.kept hk, rk, q0 e0⟩) fun x ys ex i v h' tk hv e hk => ?_
    obtain ⟨u, hu', ru⟩ := vals_at rv (by simpa using hv)
    exact ⟨u, H2, I2.kept hk, ru, q1 x ys ex i u hu' e⟩
def mBest (mx : Bool) (dd : D) (m : GM) : GM := fun ρ P => m ρ fun z => ∃ xs : List D, z.seq = some (false, xs) ∧ D.plains xs = true ∧ AlikeAll (D.pys xs) ∧ PyData.depthAll (D.pys xs) ≤ 60 ∧
  (xs = [] → P (.d dd)) ∧ ∀ x ys, xs = x :: ys → ∀ y ∈ xs, y.py = bestD mx x.py (D.pys ys) → P (.d y)
theorem snd_best {mx : Bool} {K : PySem.W.Frag} {vd : V} {dd : D} {te : TE} {m : GM} (hd : ∀ H, Dv H vd dd) (he : SndE K te m) : SndE K (tBest mx K vd te) (mBest mx dd m) := fun dr Hi σ ρ H0 H Q P B R w k =>
  he dr Hi σ ρ H0 H _ _ B R w fun v z A0 A1 B1 S1 zv ⟨xs, ez, pl, al, dp, p0, p⟩ => by
    obtain ⟨a, vs, rfl, hl, da⟩ := zv.seq B1 ez
    have hl' := (hide_some hl).1
    have dpa := (da.mono B1.ex).dp (K := K) pl
    refine ⟨a, vs, D.pys xs, rfl, hl', dpa, al, dp, fun e0 => ?_, fun x ys ex i u hu e => ?_⟩
    · have : xs = [] := by cases xs with
        | nil => rfl
        | cons a b => simp [D.pys] at e0
      exact k vd (.d dd) A0 A1 B1 S1 (.d (hd _)) (p0 this)
    · obtain ⟨d, h1, h2⟩ := da.getV hu
      cases xs with
      | nil => simp at h1
      | cons x' xs' =>
        have ep : D.pys (x' :: xs') = x'.py :: D.pys xs' := by simp [D.pys]
        rw [ep] at ex
        obtain ⟨rfl, rfl⟩ := List.cons.inj ex
        refine k u (.d d) A0 A1 B1 S1 (.d h2) (p x' xs' rfl d (List.mem_of_getElem? h1) ?_)
        rw [← e, pys_getD h1]
theorem ge_best (mx : Bool) {X : Cx} {e ed : Expr} {te : TE} {m : GM} {vd : V} {dd : D} {p kp pos : Pos} {xn : Str} (hxn : xn = nmB mx) (hc : X.calm = true) (hu : X.A.units + 64 < cLine) (hg : Gl X xn) (hm : X.mg xn = none) (he : GE X e te m) (hd : PE X ed (tC vd)) (hv : ∀ H, Dv H vd dd)
    (na : backTo pos (starEach [e] X.env) = (false, eval e X.env) :: backTo pos (starEach [] X.env) := by rfl) (na2 : (backTo pos (starEach [e] X.env)).any (·.1) = false := by rfl) (na3 : starEach [e] X.env = (false, eval e X.env) :: starEach [] X.env := by rfl) :
    GE X (.Call (.Name xn p) [e] [⟨some "default", ed, kp⟩] pos) (tBest mx X.K vd te) (mBest mx dd m) := ⟨pe_best mx hxn hc hu hg hm he.pe hd na na2 na3, snd_best hv he.sn⟩
/-- x is None -/
def nonZ : Z → Option Bool
  | .d .non => some true
  | .drw => none
  | _ => some false
def fIsN (neg : Bool) : Z → Z → (Z → Prop) → Prop := fun x y P => y = .d .non ∧ ∃ b : Bool, nonZ x = some b ∧ P (.d (.bl (if neg then !b else b)))
theorem Zv.isnon {dr : Option Dr} {Hs H0 H : Hp} {v : V} {z : Z} (h : Zv dr Hs H0 H v z) {b : Bool} (e : nonZ z = some b) : decide (v = .non) = b := by
  cases h with
  | d d1 => cases d1 <;> (cases e; rfl)
  | bor => cases e; rfl
  | own => cases e; rfl
  | drw => cases e
theorem os_isN : OpS (fun x y H Q => y = .non ∧ Q (.bl (decide (x = .non))) H) (fIsN false) := fun dr Hs Hs' H0 H x y zx zy Q P B hx hy ⟨ey, b, e, p⟩ k => by
  subst ey
  cases hy with
  | d d1 =>
    cases d1
    refine ⟨rfl, ?_⟩
    rw [hx.isnon e]
    exact k _ _ H0 H B .refl (.d (.bl b)) p
theorem os_isNotN : OpS (fun x y H Q => y = .non ∧ Q (.bl (!decide (x = .non))) H) (fIsN true) := fun dr Hs Hs' H0 H x y zx zy Q P B hx hy ⟨ey, b, e, p⟩ k => by
  subst ey
  cases hy with
  | d d1 =>
    cases d1
    refine ⟨rfl, ?_⟩
    rw [hx.isnon e]
    exact k _ _ H0 H B .refl (.d (.bl (!b))) p
/-- int of a number or of a truth value -/
def fIntB : List Z → (Z → Prop) → Prop := fun zs P => (∃ i, zs = [.d (.int i)] ∧ P (.d (.int i))) ∨ ∃ b, zs = [.d (.bl b)] ∧ P (.d (.int (if b then 1 else 0)))
theorem cs_intB : CallS rInt1 fIntB := fun dr Hs H0 H xs zs Q P B h w k => by
  rcases w with ⟨i, e, p⟩ | ⟨b, e, p⟩
  · subst e
    obtain ⟨v, rfl, hv⟩ := h.one
    cases hv with
    | d d1 => cases d1; exact .inl ⟨i, rfl, k _ _ H0 H B .refl (.d (.int i)) p⟩
  · subst e
    obtain ⟨v, rfl, hv⟩ := h.one
    cases hv with
    | d d1 => cases d1; exact .inr ⟨b, rfl, k _ _ H0 H B .refl (.d (.int _)) p⟩
section
variable {X : Cx} {e : Expr} {t : TE} {m : GM} {pos : Pos} {x : Str}
/-- a number that a module's name holds -/
theorem gglobI {i : Int} {tk : Tok} (hg : Gl X x) (hm : X.mg x = some (.int i tk)) (hd : (x == ("__debug__" : Str)) = false := by decide) : GE X (.Name x pos) (tC (.int i)) (mC (.int i)) := gc (pe_glob hg hm ⟨tk, rfl⟩ hd) fun _ => .int i
/-- isinstance(e, (A, B)), A and B own classes -/
def mIsi2V (K : PySem.W.Frag) (c1 c2 : Value) (m : GM) : GM := fun ρ P => m ρ fun z => ∃ u b, tyZ z = some u ∧ (∀ C, u = .ref C → ClsFacts K C) ∧ PySem.W.kitAny K u [c1, c2] = some b ∧ P (.d (.bl b))
theorem ge_isi2V {v1 v2 : V} {c1 c2 : Value} {p2 p3 : Pos} {x1 : Nat} {xs xt : Expr} (k1 : ClsV v1 c1) (k2 : ClsV v2 c2) (hg : Gl X "isinstance") (hm : X.mg "isinstance" = none) (he : GE X e t m) (hS : PE X xs (tC v1)) (hT : PE X xt (tC v2)) (n1 : starEach [e, .Tuple [xs, xt] x1 p3] X.env = (false, eval e X.env) :: starEach [.Tuple [xs, xt] x1 p3] X.env := by rfl)
    (n3 : starEach [xs, xt] X.env = (false, eval xs X.env) :: starEach [xt] X.env := by rfl) (n4 : starEach [xt] X.env = (false, eval xt X.env) :: starEach [] X.env := by rfl) (hpl : (backTo pos (starEach [.Tuple [xs, xt] x1 p3] X.env)).any (·.1) = false := by rfl) :
    GE X (.Call (.Name "isinstance" p2) [e, .Tuple [xs, xt] x1 p3] [] pos) (tCB (rIsiT X.K) (tCons t (tCons (tTup (tCons (tC v1) (tCons (tC v2) tNil))) tNil))) (mIsi2V X.K c1 c2 m) := ⟨pe_callB call_isiT hg hm (by decide +kernel) (pa_cons he.pe (pa_cons (pe_tup (pa_cons hS (pa_cons hT pa_nil n4) n3)) pa_nil rfl) n1) (by decide) (by decide) n1 hpl, fun dr Hi σ ρ H0 H Q P B R w k =>
  he.sn dr Hi σ ρ H0 H _ _ B R w fun v z A0 A1 B1 S1 zv ⟨u, b, e1, e2, e3, q⟩ => ⟨by show 2 ≤ sizeLine; decide, fun p hp => by
    have ty := (zv.step (Step.new (o := .tup [v1, v2]) hp)).ty (K := X.K) (B1.new hp) e1 e2
    exact ⟨v, p, [v1, v2], u, [c1, c2], b, rfl, upd_same, .cons k1 (.cons k2 .nil), ty, e3, k _ _ A0 _ (B1.new hp) (S1.trans (.new hp)) (.d (.bl b)) q⟩⟩⟩
end
end GL
namespace GL
open PySem L2 PySem.W PyProof.Rows PySem.SeqAt
variable [TabCx] [XCx]
/-! ### a list of one's own becomes data -/
theorem Rs.frz {K : PySem.W.Frag} {dr : Option Dr} {Hi H0 H : Hp} {σ : L2.St} {ρ : Env} (r : Rs K dr Hi H0 H σ ρ) {i : Nat} {p : Addr} {xs : List D} {vs : List V} (hi : ρ[i]? = some (some (.own xs))) (hp : σ[i]? = some (some (.ref p))) (hl : H p = some (.lst vs)) (da : DvAll H0 vs xs) (h0 : H0 p = none) (hip : Hi p = none) :
    Rs K dr Hi (upd H0 p (.lst vs)) H σ (ρ.set i (some (.d (.lst xs)))) := by
  have hlt : i < ρ.length := by
    by_cases h : i < ρ.length
    · exact h
    · rw [List.getElem?_eq_none (by simpa using h)] at hi; cases hi
  have sm : Same H0 (upd H0 p (.lst vs)) := same_upd h0
  refine ⟨by rw [List.length_set, r.len], fun j g e => ?_, fun j k q ys zs ne e1 e2 e3 => ?_, fun a => ⟨(r.xs a).1, (r.xs a).2.frz h0 (r.hx p a hip)⟩, r.hx⟩
  · by_cases hj : i = j
    · subst hj
      rw [List.getElem?_set_self hlt] at e
      cases e
      exact ⟨_, hp, .d (.lst upd_same (da.mono sm))⟩
    · rw [List.getElem?_set_ne hj] at e
      obtain ⟨v, hv, gv⟩ := r.at_ j _ e
      refine ⟨v, hv, ?_⟩
      cases gv with
      | d h => exact .d (h.mono sm)
      | bor h h' k => exact .bor h h' (k.mono sm)
      | drw h => exact .drw h
      | scr h => exact .scr fun H' q => h H' (sm.trans q)
      | @own p' vs' xs' a b c d f =>
        have np : p' ≠ p := by
          rintro rfl
          exact r.dist i j _ _ _ hj hi e hp hv
        exact .own a (b.mono sm) (by rw [upd_ne np]; exact c) d f
      | @mk a' dx C fs vs' ns' xs' h h1 h2 k h0' o hi' =>
        refine .mk h h1 h2 (k.mono sm) (by rw [upd_ne]; exact h0'; rintro rfl; rw [h] at hl; cases hl) o hi'
      | frs h f => exact .frs (h.mono sm) (f.mono sm)
      | odc h h1 h2 k h0' o hi' => exact .odc h h1 h2 (k.mono sm) (by rw [upd_ne]; exact h0'; rintro rfl; rw [h] at hl; cases hl) o hi'
      | odt h h1 h2 k h0' o hi' => exact .odt h h1 h2 (k.mono sm) (by rw [upd_ne]; exact h0'; rintro rfl; rw [h] at hl; cases hl) o hi'
  · have get : ∀ (m : Nat) (ws : List D), (ρ.set i (some (.d (.lst xs))))[m]? = some (some (G.own ws)) → ρ[m]? = some (some (.own ws)) := fun m ws e => by
      by_cases hm : i = m
      · subst hm; rw [List.getElem?_set_self hlt] at e; cases e
      · rw [List.getElem?_set_ne hm] at e; exact e
    exact r.dist j k q ys zs ne (get j ys e1) (get k zs e2) e3
def mFrz (i : Nat) (m : GMS) : GMS := fun D ρ => ∃ xs, ρ[i]? = some (some (.own xs)) ∧ m D (ρ.set i (some (.d (.lst xs))))
theorem gs_frz {X : Cx} {st : Stmt} {t : TS} {m : GMS} {i : Nat} (h : GS X st t m) : GS X st t (mFrz i m) := ⟨h.ps, fun dr H0i Hi σ ρ H0 H D E B S R L ⟨xs, hx, w⟩ => by
  obtain ⟨v, hv, gv⟩ := R.at_ i _ hx
  cases gv with
  | own a b c o f => exact h.sn dr H0i Hi σ _ _ H D E (B.frz a o) (S.frz c f) (R.frz hx hv a b c f) L w⟩
end GL
end
section
set_option linter.all false
set_option maxRecDepth 100000
set_option maxHeartbeats 4000000
namespace GL
open PySem L2 PySem.W PyProof.Rows PySem.SeqAt
variable [TabCx] [XCx]
/-! ### what a call gave, kept as one's own: no list (no dict) of those that it was handed can be it -/
inductive Kd where | lst | dic
mutual
/-- no list within, or no dict -/
def D.no (k : Kd) : D → Bool
  | .non | .bl _ | .int _ | .str _ => true
  | .lst xs => (match k with | .lst => false | .dic => true) && D.nos k xs
  | .tup xs => D.nos k xs
  | .dic _ xs => (match k with | .lst => true | .dic => false) && D.nos k xs
  | .obj _ _ xs => D.nos k xs
  | .dit _ xs => (match k with | .lst => true | .dic => false) && D.nos k xs
def D.nos (k : Kd) : List D → Bool
  | [] => true
  | x :: xs => D.no k x && D.nos k xs
end
theorem D.nos_eq (k : Kd) : ∀ xs : List D, D.nos k xs = xs.all (D.no k)
  | [] => by simp [D.nos]
  | x :: xs => by simp [D.nos, D.nos_eq k xs]
open Classical in
noncomputable def smallH (k : Kd) (H : Hp) : Hp := fun a => if ∃ x, Dv H (.ref a) x ∧ x.no k = true then H a else none
section
variable {k : Kd} {H H' : Hp}
theorem small_sub : Same (smallH k H) H := fun a o e => by
  unfold smallH at e
  split at e
  · exact e
  · cases e
theorem small_at {a : Addr} {o : HO} {x : D} (h : H a = some o) (d : Dv H (.ref a) x) (n : x.no k = true) : smallH k H a = some o := by
  unfold smallH
  rw [if_pos ⟨x, d, n⟩]
  exact h
mutual
theorem Dv.small : ∀ {v : V} {x : D}, Dv H v x → x.no k = true → Dv (smallH k H) v x
  | _, _, .non, _ => .non
  | _, _, .bl b, _ => .bl b
  | _, _, .int i, _ => .int i
  | _, _, .str i, _ => .str i
  | _, _, .lst h q, n => .lst (small_at h (.lst h q) n) (DvAll.small q (by simp only [D.no, Bool.and_eq_true] at n; exact n.2))
  | _, _, .tup h q, n => .tup (small_at h (.tup h q) n) (DvAll.small q (by simpa only [D.no] using n))
  | _, _, .dic h e1 e2 q, n => .dic (small_at h (.dic h e1 e2 q) n) e1 e2 (DvAll.small q (by simp only [D.no, Bool.and_eq_true] at n; exact n.2))
  | _, _, .obj h e1 e2 q, n => .obj (small_at h (.obj h e1 e2 q) n) e1 e2 (DvAll.small q (by simpa only [D.no] using n))
  | _, _, .dit h e1 e2 q, n => .dit (small_at h (.dit h e1 e2 q) n) e1 e2 (DvAll.small q (by simp only [D.no, Bool.and_eq_true] at n; exact n.2))
theorem DvAll.small : ∀ {vs : List V} {xs : List D}, DvAll H vs xs → D.nos k xs = true → DvAll (smallH k H) vs xs
  | _, _, .nil, _ => .nil
  | _, _, .cons h t, n => by
    simp only [D.nos, Bool.and_eq_true] at n
    exact .cons (Dv.small h n.1) (DvAll.small t n.2)
end
/-- a list's (a dict's) place is not among what holds none -/
theorem small_lst {a : Addr} {vs : List V} (h : H a = some (.lst vs)) : smallH .lst H a = none := by
  unfold smallH
  rw [if_neg]
  rintro ⟨x, d, n⟩
  cases d with
  | lst => simp [D.no] at n
  | tup h' => rw [h] at h'; cases h'
  | dic h' => rw [h] at h'; cases h'
  | obj h' => rw [h] at h'; cases h'
  | dit h' => rw [h] at h'; cases h'
theorem small_dK {a : Addr} {vs : List (Key × V)} (h : H a = some (.dK vs)) : smallH .dic H a = none := by
  unfold smallH
  rw [if_neg]
  rintro ⟨x, d, n⟩
  cases d with
  | dic => simp [D.no] at n
  | tup h' => rw [h] at h'; cases h'
  | lst h' => rw [h] at h'; cases h'
  | obj h' => rw [h] at h'; cases h'
  | dit h' => rw [h] at h'; cases h'
theorem small_dT {a : Addr} {vs : List (List Key × V)} (h : H a = some (.dT vs)) : smallH .dic H a = none := by
  unfold smallH
  rw [if_neg]
  rintro ⟨x, d, n⟩
  cases d with
  | dit => simp [D.no] at n
  | tup h' => rw [h] at h'; cases h'
  | lst h' => rw [h] at h'; cases h'
  | obj h' => rw [h] at h'; cases h'
  | dic h' => rw [h] at h'; cases h'
theorem Bas.small {dr : Option Dr} {H0 : Hp} (B : Bas dr H0 H) : Bas dr (smallH k H0) H := ⟨fun a o e => B.ex a o (small_sub a o e), B.dw, B.tb, fun a o e => B.fr a o (small_sub a o e)⟩
/-- what may be handed to such a call -/
def Z.no (k : Kd) : Z → Bool
  | .d x => x.no k
  | .bor _ xs => D.nos k xs
  | .own xs => D.nos k xs
  | .drw => true
theorem Zv.small {dr : Option Dr} {Hs H0 : Hp} {v : V} {z : Z} (h : Zv dr Hs H0 H v z) (n : z.no k = true) : Zv dr Hs (smallH k H0) H v z := by
  cases h with
  | d h => exact .d (h.small n)
  | bor h q => exact .bor h (q.small n)
  | own h q h0 o hs =>
    refine .own h (q.small n) ?_ o hs
    rename_i p vs xs
    cases e : GL.smallH k H0 p with
    | none => rfl
    | some u => rw [small_sub _ _ e] at h0; cases h0
  | drw e => exact .drw e
theorem ZvAll.small {dr : Option Dr} {Hs H0 : Hp} : ∀ {vs : List V} {zs : List Z}, ZvAll dr Hs H0 H vs zs → zs.all (Z.no k) = true → ZvAll dr Hs (smallH k H0) H vs zs
  | _, _, .nil, _ => .nil
  | _, _, .cons h t, n => by
    rw [List.all_cons, Bool.and_eq_true] at n
    exact .cons (h.small n.1) (ZvAll.small t n.2)
/-- what stood still, and what the call made and froze but the result itself -/
noncomputable def union (k : Kd) (H0 H0' : Hp) : Hp := fun a => match H0 a with
  | some o => some o
  | none => GL.smallH k H0' a
theorem union_l {H0 H0' : Hp} : Same H0 (union k H0 H0') := fun a o e => by unfold union; rw [e]
theorem union_r {dr : Option Dr} {H0 H0' : Hp} (B : Bas dr H0 H) (S : Step dr (GL.smallH k H0) H H0' H') (B' : Bas dr H0' H') : Same (GL.smallH k H0') (union k H0 H0') := fun a o e => by
  unfold union
  cases q : H0 a with
  | none => exact e
  | some u =>
    have e1 := S.same (B.ex _ _ q) (B.fr _ _ q)
    rw [B'.ex _ _ (small_sub _ _ e)] at e1
    rw [Option.some.inj e1]
theorem union_bas {dr : Option Dr} {H0 H0' : Hp} (B : Bas dr H0 H) (S : Step dr (GL.smallH k H0) H H0' H') (B' : Bas dr H0' H') : Bas dr (union k H0 H0') H' := by
  have cs : ∀ a o, union k H0 H0' a = some o → H0 a = some o ∨ H0' a = some o := fun a o e => by
    unfold union at e
    cases q : H0 a with
    | some u => rw [q] at e; exact .inl e
    | none => rw [q] at e; exact .inr (small_sub _ _ e)
  refine ⟨fun a o e => ?_, B'.dw, B'.tb, fun a o e => ?_⟩
  · rcases cs a o e with h | h
    · exact S.same (B.ex _ _ h) (B.fr _ _ h)
    · exact B'.ex _ _ h
  · rcases cs a o e with h | h
    · exact B.fr _ _ h
    · exact B'.fr _ _ h
theorem union_step {dr : Option Dr} {H0 H0' : Hp} (S : Step dr (GL.smallH k H0) H H0' H') : Step dr H0 H (union k H0 H0') H' := by
  refine ⟨union_l, S.e1, fun a o out e => ?_⟩
  unfold union at e
  cases q : H0 a with
  | some u => rw [q] at e; exact .inl e
  | none =>
    rw [q] at e
    rcases S.nw a o out (small_sub _ _ e) with h | h
    · rw [small_sub _ _ h] at q; cases q
    · exact .inr h
end
section
variable {X : Cx} {e : Expr} {es : List Expr} {tl : TA} {mz : GMA} {S : Spc} {pos p : Pos}
/-- a list that a call gave, one's own -/
def mCallO (S : Spc) (mz : GMA) : GM := fun ρ P => mz ρ fun zs => zs.all (Z.no .lst) = true ∧ S (zs.map Z.arg) fun z => ∃ xs, z = .d (.lst xs) ∧ D.nos .lst xs = true ∧ P (.own xs)
theorem snd_callO {K : PySem.W.Frag} {E : XK} (ha : SndA K tl mz) : SndE K (tCall (GSp S) [] E tl) (mCallO S mz) := fun dr Hi σ ρ H0 H Q P B R w kk =>
  ha dr Hi σ ρ H0 H _ _ B R w fun vs zs A0 A1 B1 S1 z1 ⟨n, w1⟩ => by
    rw [List.append_nil]
    refine gsp_use (H0 := GL.smallH .lst A0) B1.small (z1.small n) w1 fun v z C0 C1 B2 S2 z2 ⟨xs, ez, nx, pz⟩ => ?_
    subst ez
    cases z2 with
    | d d1 =>
      cases d1 with
      | @lst a us _ hl da =>
        have B3 := union_bas B1 S2 B2
        have S3 := union_step S2
        have oa := B2.fr _ _ hl
        have fa : A1 a = none := by
          rcases S2.nw _ _ oa hl with h | h
          · have := small_lst (small_sub _ _ h); rw [this] at h; cases h
          · exact h
        refine kk (.ref a) (.own xs) _ C1 B3 (S1.trans S3) (.own (B2.ex _ _ hl) ((da.small nx).mono (union_r B1 S2 B2)) ?_ oa (S1.free fa oa)) pz
        unfold union
        rw [B1.ex.free fa]
        exact small_lst hl
theorem ge_callOD {x : Str} {k : Nat} {ps : List Str} (D : Df X.prog X.w X.K X.mg X.base k x ps S) (hr : Room k X.A) (hg : Gl X x) (ha : GA X (e :: es) tl mz) (hdb : (x == ("__debug__" : Str)) = false := by decide) (he : starEach (e :: es) X.env = (false, eval e X.env) :: starEach es X.env := by rfl)
    (hpl : (backTo pos (starEach es X.env)).any (·.1) = false := by rfl) : GE X (.Call (.Name x p) (e :: es) [] pos) (tCall (GSp S) [] E0 tl) (mCallO S mz) := ⟨(ge_callD D hr hg ha hdb he hpl).pe, snd_callO ha.sn⟩
theorem ge_callORD {x : Str} {k : Nat} {ps ks : List Str} {kws : List Keyword} (D : DfR X.prog X.w X.K X.mg X.base k x ps ks S) (hr : Room k X.A) (hg : Gl X x) (ha : GA X (e :: es) tl mz) : True := trivial
/-- x = f(..), a dict of one's own -/
def mSetCD (i : Nat) (S : Spc) (mz : GMA) : GMS := fun D ρ => mz ρ fun zs => zs.all (Z.no .dic) = true ∧ S (zs.map Z.arg) fun z => ∃ ks xs, z = .d (.dic ks xs) ∧ GL.D.nos .dic xs = true ∧ D.nx (ρ.set i (some (.odc ks xs)))
theorem gs_setCD {i : Nat} {x f : Str} {k : Nat} {ps : List Str} {p0 pp : Pos} (Df0 : Df X.prog X.w X.K X.mg X.base k f ps S) (hr : Room k X.A) (hg : Gl X f) (hN : X.N.Nodup) (hi : X.N[i]? = some x) (hx : Loc X.env.scope x) (ha : GA X (e :: es) tl mz) (hdb : (f == ("__debug__" : Str)) = false := by decide) (he : starEach (e :: es) X.env = (false, eval e X.env) :: starEach es X.env := by rfl)
    (hpl : (backTo pp (starEach es X.env)).any (·.1) = false := by rfl) (hs : swapsWith (.Call (.Name f p) (e :: es) [] pp) (some (.Name x p0)) pos.line X.env = pure false := by rfl) (hf : X.fn x = true ∨ X.env.scope.names.lookup x = some .local := by first | exact .inl rfl | exact .inr rfl | assumption) :
    GS X (.Assign [.Name x p0] (.Call (.Name f p) (e :: es) [] pp) pos) (tAsg (tCall (GSp S) [] E0 tl) (gName i)) (mSetCD i S mz) := ⟨ps_set hN hi hx (ge_callD Df0 hr hg ha hdb he hpl).pe hs hf, fun dr H0i Hi σ ρ H0 H D E B S0 R L w =>
  ha.sn dr Hi σ ρ H0 H _ _ B R w fun vs zs A0 A1 B1 S1 z1 ⟨n, w1⟩ => by
    rw [List.append_nil]
    refine gsp_use (H0 := GL.smallH .dic A0) B1.small (z1.small n) w1 fun v z C0 C1 B2 S2 z2 ⟨ks, xs, ez, nx, pz⟩ => ?_
    subst ez
    cases z2 with
    | d d1 =>
      cases d1 with
      | @dic a kvs us _ _ hl e1 e2 da =>
        have B3 := union_bas B1 S2 B2
        have S3 := union_step S2
        have oa := B2.fr _ _ hl
        have fa : A1 a = none := by
          rcases S2.nw _ _ oa hl with h | h
          · have := small_dK (small_sub _ _ h); rw [this] at h; cases h
          · exact h
        have f0 : GL.union .dic A0 C0 a = none := by
          unfold union
          rw [B1.ex.free fa]
          exact small_dK hl
        refine L.nx _ _ _ C1 B3 (S0.trans (S1.trans S3)) (((R.step S1).step S3).set i (.odc (B2.ex _ _ hl) e1 e2 ((da.small nx).mono (union_r B1 S2 B2)) f0 oa (S0.free (S1.free fa oa) oa)) fun _ e => nomatch e) pz⟩
end
/-! ### dicts of one's own -/
section
variable {κ : Type} [DecidableEq κ]
def putKs (ks : List κ) (k : κ) : List κ := if k ∈ ks then ks else ks ++ [k]
def putXs (ks : List κ) (xs : List D) (k : κ) (y : D) : List D := if k ∈ ks then (ks.zip xs).map (fun q => if q.1 = k then y else q.2) else xs ++ [y]
theorem any_key {kvs : List (κ × V)} {k : κ} : (kvs.any fun kv => decide (kv.1 = k)) = decide (k ∈ kvs.map (·.1)) := by
  by_cases h : k ∈ kvs.map (·.1)
  · rw [decide_eq_true h, List.any_eq_true]
    obtain ⟨q, hq, e⟩ := List.mem_map.mp h
    exact ⟨q, hq, decide_eq_true e⟩
  · rw [decide_eq_false h, List.any_eq_false]
    intro q hq e
    exact h (List.mem_map.mpr ⟨q, hq, of_decide_eq_true e⟩)
theorem putK_keys (kvs : List (κ × V)) (k : κ) (v : V) : (putK kvs k v).map (·.1) = putKs (kvs.map (·.1)) k := by
  unfold putK putKs
  rw [any_key]
  by_cases h : k ∈ kvs.map (·.1)
  · rw [if_pos (decide_eq_true h), if_pos h, List.map_map]
    refine List.map_congr_left fun q _ => ?_
    show (if q.1 = k then (q.1, v) else q).1 = q.1
    split <;> rfl
  · rw [if_neg (by simpa using h), if_neg h, List.map_append]; rfl
theorem dv_zip {H : Hp} {k : κ} {v : V} {y : D} (d : Dv H v y) : ∀ {kvs : List (κ × V)} {xs : List D}, DvAll H (kvs.map (·.2)) xs → DvAll H ((kvs.map fun kv => if kv.1 = k then (kv.1, v) else kv).map (·.2)) (((kvs.map (·.1)).zip xs).map fun q => if q.1 = k then y else q.2)
  | [], _, h => by cases h; exact .nil
  | q :: r, _, h => by
    cases h with
    | cons a t =>
      simp only [List.map_cons, List.zip_cons_cons]
      refine .cons ?_ (dv_zip d t)
      by_cases c : q.1 = k
      · rw [if_pos c, if_pos c]; exact d
      · rw [if_neg c, if_neg c]; exact a
theorem putK_vals {H : Hp} {kvs : List (κ × V)} {k : κ} {v : V} {xs : List D} {y : D} (h : DvAll H (kvs.map (·.2)) xs) (d : Dv H v y) : DvAll H ((putK kvs k v).map (·.2)) (putXs (kvs.map (·.1)) xs k y) := by
  unfold putK putXs
  rw [any_key]
  by_cases c : k ∈ kvs.map (·.1)
  · rw [if_pos (decide_eq_true c), if_pos c]
    exact dv_zip d h
  · rw [if_neg (by simpa using c), if_neg c, List.map_append]
    exact h.append (.cons d .nil)
end
section
variable {X : Cx} {e o : Expr} {t te : TE} {m : GM} {md : GMD} {pos pos' p2 : Pos} {i j : Nat} {st : Stmt} {ts : TS} {ms : GMS}
/-- d[k], d a dict of one's own -/
def mDGetO (i : Nat) (k : Str) : GM := fun ρ P => ∃ ks xs y, ρ[i]? = some (some (.odc ks xs)) ∧ lookD k ks xs = some y ∧ P (.d y)
theorem ge_dgetO {k : Str} (hu : X.A.units + 1 < cLine) (ho : PE X o (tVar i)) : GE X (.Subscript o (.Constant (.str k) j p2) pos) (tDGet (tVar i) (tC (.str k))) (mDGetO i k) := ⟨pe_dget hu ho pe_str fun _ _ => rfl, fun dr Hi σ ρ H0 H Q P B R ⟨ks, xs, y, hi, hk, p⟩ kk => by
  obtain ⟨v, hv, gv⟩ := R.at_ i _ hi
  cases gv with
  | odc h e1 e2 da h0 oo hp =>
    subst e1 e2
    obtain ⟨u, hu', du⟩ := lookD_of da hk
    exact ⟨_, hv, _, u, rfl, .inl ⟨_, Sum.inr k, .inl h, rfl, hu'.symm⟩, kk u _ H0 H B .refl (.d du) p⟩⟩
/-- d[k] = e, d a dict of one's own -/
def mDPutO (i : Nat) (k : Str) (m : GMD) : GMS := fun D ρ => m ρ fun y => ∃ ks xs, ρ[i]? = some (some (.odc ks xs)) ∧ (∀ j ks' xs', i ≠ j → ρ[j]? ≠ some (some (G.odc ks' xs'))) ∧ ks.length < sizeLine ∧ D.nx (ρ.set i (some (.odc (putKs ks (Sum.inr k)) (putXs ks xs (Sum.inr k) y))))
theorem Rs.odcPut {K : PySem.W.Frag} {dr : Option Dr} {Hi H0 H : Hp} {σ : L2.St} {ρ : Env} (r : Rs K dr Hi H0 H σ ρ) {i : Nat} {a : Addr} {kvs kvs' : List (Key × V)} {ks : List Key} {xs : List D} {ks' : List Key} {xs' : List D} (hi : ρ[i]? = some (some (.odc ks xs))) (hq : σ[i]? = some (some (.ref a)))
    (uq : ∀ (j : Nat) (ks' : List Key) (xs' : List D), i ≠ j → ρ[j]? ≠ some (some (G.odc ks' xs'))) (h : H a = some (.dK kvs)) (h0 : H0 a = none) (o : Out dr a) (hh : Hi a = none) (e1 : kvs'.map (·.1) = ks') (da : DvAll H0 (kvs'.map (·.2)) xs') :
    Rs K dr Hi H0 (upd H a (.dK kvs')) σ (ρ.set i (some (.odc ks' xs'))) := by
  have hl : i < ρ.length := by
    by_cases hl : i < ρ.length
    · exact hl
    · rw [List.getElem?_eq_none (by simpa using hl)] at hi; cases hi
  refine ⟨by rw [List.length_set, r.len], fun j g' e => ?_, fun j k p ys' zs' ne e1 e2 e3 => ?_, fun z => ⟨(r.xs z).1, (r.xs z).2.mut (r.hx a z hh)⟩, r.hx⟩
  · by_cases hj : i = j
    · subst hj
      rw [List.getElem?_set_self hl] at e
      cases e
      exact ⟨_, hq, .odc upd_same e1 rfl da h0 o hh⟩
    · rw [List.getElem?_set_ne hj] at e
      obtain ⟨u, hv, gv⟩ := r.at_ j _ e
      refine ⟨u, hv, ?_⟩
      cases gv with
      | d h => exact .d h
      | bor b1 b2 b3 => exact .bor b1 (hide_mk (by rw [upd_ne (by rintro rfl; rw [(hide_some b1).1] at hh; cases hh)]; exact (hide_some b2).1) (hide_some b2).2) b3
      | drw h => exact .drw h
      | scr h => exact .scr h
      | own a b c d e' => exact .own (by rw [upd_ne (by rintro rfl; rw [h] at a; cases a)]; exact a) b c d e'
      | mk a h1 h2 k h0 o hi' => exact .mk (by rw [upd_ne (by rintro rfl; rw [h] at a; cases a)]; exact a) h1 h2 k h0 o hi'
      | odc => exact absurd e (uq j _ _ hj)
      | odt a h1 h2 k h0 o hi' => exact .odt (by rw [upd_ne (by rintro rfl; rw [h] at a; cases a)]; exact a) h1 h2 k h0 o hi'
      | frs h f => exact .frs h f
  · have own : ∀ (m : Nat) (zs : List D), (ρ.set i (some (.odc ks' xs')))[m]? = some (some (.own zs)) → ρ[m]? = some (some (G.own zs)) := fun m zs e => by
      by_cases hm : i = m
      · subst hm; rw [List.getElem?_set_self hl] at e; cases e
      · rw [List.getElem?_set_ne hm] at e; exact e
    exact r.dist j k p _ _ ne (own j _ e1) (own k _ e2) e3
theorem gs_dputO {k : Str} (hu : X.A.units + 1 < cLine) (ho : PE X o (tVar i)) (he : GD X e te md) (hs : swapsWith e (some (.Subscript o (.Constant (.str k) j p2) pos')) pos.line X.env = pure false := by rfl) :
    GS X (.Assign [.Subscript o (.Constant (.str k) j p2) pos'] e pos) (sDPut (tVar i) (tC (.str k)) te) (mDPutO i k md) := ⟨ps_dput hu ho pe_str he.pe hs, fun dr H0i Hi σ ρ H0 H D E B S R L w =>
  he.sn dr Hi σ ρ H0 H _ _ B R w fun v y A0 A1 B1 S1 dv ⟨ks, xs, hi, uq, hl, w1⟩ => by
    have R1 := R.step S1
    obtain ⟨u, hu', gu⟩ := R1.at_ i _ hi
    cases gu with
    | @odc a kvs _ _ _ h e1 e2 da h0 oo hp =>
      subst e1 e2
      refine ⟨_, hu', a, _, rfl, .inl ⟨kvs, Sum.inr k, h, rfl, by simpa using hl, rfl⟩, ?_⟩
      exact L.nx _ _ A0 _ (B1.upd h0 oo (by rw [h]; trivial)) ((S.trans S1).mut hp) (R1.odcPut hi hu' uq h h0 oo hp (putK_keys kvs _ v) (putK_vals da dv)) w1⟩
/-- a dict of one's own becomes data -/
def mFrzD (i : Nat) (m : GMS) : GMS := fun D ρ => ∃ ks xs, ρ[i]? = some (some (.odc ks xs)) ∧ (∀ j ks' xs', i ≠ j → ρ[j]? ≠ some (some (G.odc ks' xs'))) ∧ m D (ρ.set i (some (.d (.dic ks xs))))
theorem Rs.frzD {K : PySem.W.Frag} {dr : Option Dr} {Hi H0 H : Hp} {σ : L2.St} {ρ : Env} (r : Rs K dr Hi H0 H σ ρ) {i : Nat} {p : Addr} {ks : List Key} {xs : List D} {kvs : List (Key × V)} (hi : ρ[i]? = some (some (.odc ks xs))) (hp : σ[i]? = some (some (.ref p)))
    (uq : ∀ (j : Nat) (ks' : List Key) (xs' : List D), i ≠ j → ρ[j]? ≠ some (some (G.odc ks' xs'))) (hl : H p = some (.dK kvs)) (e1 : kvs.map (·.1) = ks) (da : DvAll H0 (kvs.map (·.2)) xs) (h0 : H0 p = none) (hip : Hi p = none) :
    Rs K dr Hi (upd H0 p (.dK kvs)) H σ (ρ.set i (some (.d (.dic ks xs)))) := by
  have hlt : i < ρ.length := by
    by_cases h : i < ρ.length
    · exact h
    · rw [List.getElem?_eq_none (by simpa using h)] at hi; cases hi
  have sm : Same H0 (upd H0 p (.dK kvs)) := same_upd h0
  refine ⟨by rw [List.length_set, r.len], fun j g e => ?_, fun j k q ys zs ne e1 e2 e3 => ?_, fun a => ⟨(r.xs a).1, (r.xs a).2.frz h0 (r.hx p a hip)⟩, r.hx⟩
  · by_cases hj : i = j
    · subst hj
      rw [List.getElem?_set_self hlt] at e
      cases e
      exact ⟨_, hp, .d (.dic upd_same e1 rfl (da.mono sm))⟩
    · rw [List.getElem?_set_ne hj] at e
      obtain ⟨v, hv, gv⟩ := r.at_ j _ e
      refine ⟨v, hv, ?_⟩
      cases gv with
      | d h => exact .d (h.mono sm)
      | bor h h' k => exact .bor h h' (k.mono sm)
      | drw h => exact .drw h
      | scr h => exact .scr fun H' q => h H' (sm.trans q)
      | own a b c d f => exact .own a (b.mono sm) (by rw [upd_ne]; exact c; rintro rfl; rw [a] at hl; cases hl) d f
      | mk h h1 h2 k h0' o hi' => exact .mk h h1 h2 (k.mono sm) (by rw [upd_ne]; exact h0'; rintro rfl; rw [h] at hl; cases hl) o hi'
      | frs h f => exact .frs (h.mono sm) (f.mono sm)
      | odc => exact absurd e (uq j _ _ hj)
      | odt h h1 h2 k h0' o hi' => exact .odt h h1 h2 (k.mono sm) (by rw [upd_ne]; exact h0'; rintro rfl; rw [h] at hl; cases hl) o hi'
  · have get : ∀ (m : Nat) (ws : List D), (ρ.set i (some (.d (.dic ks xs))))[m]? = some (some (G.own ws)) → ρ[m]? = some (some (.own ws)) := fun m ws e => by
      by_cases hm : i = m
      · subst hm; rw [List.getElem?_set_self hlt] at e; cases e
      · rw [List.getElem?_set_ne hm] at e; exact e
    exact r.dist j k q ys zs ne (get j ys e1) (get k zs e2) e3
theorem gs_frzD {i : Nat} (h : GS X st ts ms) : GS X st ts (mFrzD i ms) := ⟨h.ps, fun dr H0i Hi σ ρ H0 H D E B S R L ⟨ks, xs, hx, uq, w⟩ => by
  obtain ⟨v, hv, gv⟩ := R.at_ i _ hx
  cases gv with
  | odc a e1 e2 b c o f =>
    subst e2
    exact h.sn dr H0i Hi σ _ _ H D E (B.frz a o) (S.frz c f) (R.frzD hx hv uq a e1 b c f) L w⟩
/-- a, b = xs.pop(), xs a list of one's own -/
theorem pe_pop0 {ol : Expr} {to : TE} {apos cpos : Pos} (ho : PE X ol to) (hbase : attributeBase ol "pop" X.env (eval ol X.env) = eval ol X.env := by rfl) (hline : (apos.endLine == cpos.line) = true := by rfl) :
    PE X (.Call (.Attribute ol "pop" apos) [] [] cpos) (tBM0 X.K "list" rPop to) := pe_bm0 PySem.F.plainAttrs_list PySem.F.slot_list_pop PySem.F.type_list_pop mt_pop ho hbase hline
def mAsgPop (i : Nat) (g : D → Env → (Env → Prop) → Prop) : GMS := fun D ρ => ∃ xs x, ρ[i]? = some (some (.own (xs ++ [x]))) ∧ g x (ρ.set i (some (.own xs))) D.nx
theorem dv_snoc {H : Hp} : ∀ {vs : List V} {xs : List D} {x : D}, DvAll H vs (xs ++ [x]) → ∃ ws u, vs = ws ++ [u] ∧ DvAll H ws xs ∧ Dv H u x
  | _, [], _, h => by
    cases h with
    | cons a t => cases t; exact ⟨[], _, rfl, .nil, a⟩
  | _, y :: ys, x, h => by
    cases h with
    | cons a t =>
      obtain ⟨ws, u, rfl, h1, h2⟩ := dv_snoc (xs := ys) t
      exact ⟨_ :: ws, u, rfl, .cons a h1, h2⟩
theorem gs_asgPop {ol tg : Expr} {tG : TG} {g : D → Env → (Env → Prop) → Prop} {is : List Nat} {apos cpos : Pos} (ho : PE X ol (tVar i)) (hg : GG X tg tG g is) (hs : swapsWithSole [tg] (.Call (.Attribute ol "pop" apos) [] [] cpos) pos.line X.env = pure false := by rfl) (hw : swappedStores [tg] (.Call (.Attribute ol "pop" apos) [] [] cpos) X.env = pure none := by rfl)
    (h1 : (assignEach [tg] X.env).map (·.2) = [assign tg X.env] := by rfl) (hbase : attributeBase ol "pop" X.env (eval ol X.env) = eval ol X.env := by rfl) (hline : (apos.endLine == cpos.line) = true := by rfl) :
    GS X (.Assign [tg] (.Call (.Attribute ol "pop" apos) [] [] cpos) pos) (tAsg (tBM0 X.K "list" rPop (tVar i)) tG) (mAsgPop i g) := ⟨ps_asg (pe_pop0 ho hbase hline) hg.pg hs hw h1, fun dr H0i Hi σ ρ H0 H D E B S R L ⟨xs, x, hi, w⟩ => by
  obtain ⟨v, hv, gv⟩ := R.at_ i _ hi
  cases gv with
  | @own p vs _ h k h0 o hp =>
    obtain ⟨ws, u, rfl, kw, du⟩ := dv_snoc k
    refine ⟨_, hv, .inl ⟨rfl, _, .of h⟩, p, ws ++ [u], u, rfl, rfl, h, by simp, ?_⟩
    rw [List.dropLast_concat]
    have B2 := B.upd (o := .lst ws) h0 o (by rw [h]; trivial)
    have R2 := R.mut hi hv kw
    exact hg.sn.run X.K dr Hi H0 _ σ _ u x _ _ B2 R2 du w fun σ' ρ' R' _ q' => L.nx σ' ρ' H0 _ B2 (S.mut hp) R' q'⟩
end
end GL
end
section
set_option linter.all false
set_option maxRecDepth 100000
set_option maxHeartbeats 4000000
namespace GL
open PySem L2 PySem.W PyProof.Rows PySem.SeqAt
variable [TabCx] [XCx]
/-! ### what a call gave, its lists being new; changed later, and then forgotten -/
theorem Frl.hi {dr : Option Dr} {Hs Hi H0 H : Hp} (B : Bas dr H0 H) (k : ∀ p, Out dr p → Hs p = none → Hi p = none) {v : V} (h : Frl Hs H0 v) : Frl Hi H0 v := by
  induction h with
  | atom h => exact .atom h
  | lst h f _ ih => exact .lst h (k _ (B.fr _ _ h) f) ih
  | tup h _ ih => exact .tup h ih
noncomputable def unionF (H0 H0' : Hp) : Hp := fun a => match H0 a with
  | some o => some o
  | none => H0' a
section
variable {k : Kd} {dr : Option Dr} {H H' H0 H0' : Hp}
theorem unionF_l : Same H0 (unionF H0 H0') := fun a o e => by unfold unionF; rw [e]
theorem unionF_r (B : Bas dr H0 H) (S : Step dr (GL.smallH k H0) H H0' H') (B' : Bas dr H0' H') : Same H0' (unionF H0 H0') := fun a o e => by
  unfold unionF
  cases q : H0 a with
  | none => exact e
  | some u =>
    have e1 := S.same (B.ex _ _ q) (B.fr _ _ q)
    rw [B'.ex _ _ e] at e1
    rw [Option.some.inj e1]
theorem unionF_bas (B : Bas dr H0 H) (S : Step dr (GL.smallH k H0) H H0' H') (B' : Bas dr H0' H') : Bas dr (unionF H0 H0') H' := by
  have cs : ∀ a o, unionF H0 H0' a = some o → H0 a = some o ∨ H0' a = some o := fun a o e => by
    unfold unionF at e
    cases q : H0 a with
    | some u => rw [q] at e; exact .inl e
    | none => rw [q] at e; exact .inr e
  refine ⟨fun a o e => ?_, B'.dw, B'.tb, fun a o e => ?_⟩
  · rcases cs a o e with h | h
    · exact S.same (B.ex _ _ h) (B.fr _ _ h)
    · exact B'.ex _ _ h
  · rcases cs a o e with h | h
    · exact B.fr _ _ h
    · exact B'.fr _ _ h
theorem unionF_step (S : Step dr (GL.smallH k H0) H H0' H') : Step dr H0 H (unionF H0 H0') H' := by
  refine ⟨unionF_l, S.e1, fun a o out e => ?_⟩
  unfold unionF at e
  cases q : H0 a with
  | some u => rw [q] at e; exact .inl e
  | none =>
    rw [q] at e
    rcases S.nw a o out e with h | h
    · rw [small_sub _ _ h] at q; cases q
    · exact .inr h
mutual
theorem frl_of (B' : Bas dr H0' H') (S : Step dr (GL.smallH .lst H0) H H0' H') : ∀ {v : V} {x : D}, Dv H0' v x → x.plain = true → Frl H H0' v
  | _, _, .non, _ => .atom fun _ => nofun
  | _, _, .bl b, _ => .atom fun _ => nofun
  | _, _, .int i, _ => .atom fun _ => nofun
  | _, _, .str i, _ => .atom fun _ => nofun
  | _, _, .lst (a := a) h q, n => .lst h (by
      rcases S.nw _ _ (B'.fr _ _ h) h with e | e
      · have := small_lst (small_sub _ _ e); rw [this] at e; cases e
      · exact e) (frls_of B' S q (by simpa only [D.plain] using n))
  | _, _, .tup h q, n => .tup h (frls_of B' S q (by simpa only [D.plain] using n))
  | _, _, .dic _ _ _ _, n => by simp [D.plain] at n
  | _, _, .obj _ _ _ _, n => by simp [D.plain] at n
  | _, _, .dit _ _ _ _, n => by simp [D.plain] at n
theorem frls_of (B' : Bas dr H0' H') (S : Step dr (GL.smallH .lst H0) H H0' H') : ∀ {vs : List V} {xs : List D}, DvAll H0' vs xs → D.plains xs = true → ∀ v ∈ vs, Frl H H0' v
  | _, _, .nil, _, v, hv => absurd hv (List.not_mem_nil)
  | _, _, .cons h t, n, v, hv => by
    simp only [D.plains, Bool.and_eq_true] at n
    rcases List.mem_cons.mp hv with rfl | hv
    · exact frl_of B' S h n.1
    · exact frls_of B' S t n.2 v hv
end
end
section
variable {X : Cx} {e a b : Expr} {es : List Expr} {t ta tb : TE} {m ma mb : GM} {tl : TA} {mz : GMA} {S : Spc} {pos p : Pos}
structure GEf (X : Cx) (e : Expr) (t : TE) (m : GM) : Prop where
  pe : PE X e t
  fr : ∀ (dr : Option Dr) (Hi : Hp) (σ : L2.St) (ρ : Env) (H0 H : Hp) (Q : VK) (P : Z → Prop), Bas dr H0 H → Rs X.K dr Hi H0 H σ ρ → m ρ P →
    (∀ v x H0' H', Bas dr H0' H' → Step dr H0 H H0' H' → Dv H0' v x → Frl H H0' v → P (.d x) → Q v H') → t σ H Q
def mCallF (S : Spc) (mz : GMA) : GM := fun ρ P => mz ρ fun zs => zs.all (Z.no .lst) = true ∧ S (zs.map Z.arg) fun z => ∃ x, z = .d x ∧ x.plain = true ∧ P (.d x)
theorem ge_callFD {x : Str} {k : Nat} {ps : List Str} (D : Df X.prog X.w X.K X.mg X.base k x ps S) (hr : Room k X.A) (hg : Gl X x) (ha : GA X (e :: es) tl mz) (hdb : (x == ("__debug__" : Str)) = false := by decide) (he : starEach (e :: es) X.env = (false, eval e X.env) :: starEach es X.env := by rfl)
    (hpl : (backTo pos (starEach es X.env)).any (·.1) = false := by rfl) : GEf X (.Call (.Name x p) (e :: es) [] pos) (tCall (GSp S) [] E0 tl) (mCallF S mz) := ⟨(ge_callD D hr hg ha hdb he hpl).pe, fun dr Hi σ ρ H0 H Q P B R w kk =>
  ha.sn dr Hi σ ρ H0 H _ _ B R w fun vs zs A0 A1 B1 S1 z1 ⟨n, w1⟩ => by
    rw [List.append_nil]
    refine gsp_use (H0 := GL.smallH .lst A0) B1.small (z1.small n) w1 fun v z C0 C1 B2 S2 z2 ⟨xs, ez, nx, pz⟩ => ?_
    subst ez
    cases z2 with
    | d d1 =>
      have B3 := unionF_bas B1 S2 B2
      have S3 := unionF_step S2
      have r := unionF_r B1 S2 B2
      exact kk v xs _ C1 B3 (S1.trans S3) (d1.mono r) (((frl_of B2 S2 d1 nx).mono r).hi B3 fun q o n => S1.free n o) pz⟩
/-- x = e, its lists being new -/
def mSetF (i : Nat) (m : GM) : GMS := fun D ρ => m ρ fun z => ∃ x, z = .d x ∧ D.nx (ρ.set i (some (.frs x)))
theorem gs_setF {i : Nat} {x : Str} {pos' : Pos} (hN : X.N.Nodup) (hi : X.N[i]? = some x) (hx : Loc X.env.scope x) (he : GEf X e t m) (hs : swapsWith e (some (.Name x pos')) pos.line X.env = pure false := by rfl) (hf : X.fn x = true ∨ X.env.scope.names.lookup x = some .local := by first | exact .inl rfl | exact .inr rfl | assumption) :
    GS X (.Assign [.Name x pos'] e pos) (tAsg t (gName i)) (mSetF i m) := ⟨ps_set hN hi hx he.pe hs hf, fun dr H0i Hi σ ρ H0 H D E B S R L w =>
  he.fr dr Hi σ ρ H0 H _ _ B R w fun v x A0 A1 B1 S1 dv f ⟨x', ex, q⟩ => by
    cases ex
    exact L.nx _ _ A0 A1 B1 (S.trans S1) ((R.step S1).set i (.frs dv (f.hi B1 fun q o n => S.free n o)) fun _ e => nomatch e) q⟩
/-- x, y = a, b, the lists of the second one being new -/
def mPar2F (i j : Nat) (oi : Bool) (ma mb : GM) : GMS := fun D ρ => mSto oi ma ρ fun g => mb ρ fun z => ∃ x, z = .d x ∧ D.nx ((ρ.set i (some g)).set j (some (.frs x)))
theorem gs_par2F (oi : Bool) {i j : Nat} {x y : Str} {px py pt : Pos} {kt k2 : Nat} {pt2 : Pos} (hc : X.calm = true) (hN : X.N.Nodup) (hi : X.N[i]? = some x) (hj : X.N[j]? = some y) (hij : i ≠ j) (hx : X.env.scope.names.lookup x = some .local) (hy : X.env.scope.names.lookup y = some .local) (ha : GE X a ta ma) (hb : GEf X b tb mb)
    (hw : swappedStores [.Tuple [.Name x px, .Name y py] kt pt] (.Tuple [a, b] k2 pt2) X.env = pure (some [x, y])) (hs : swapsWithSole [.Tuple [.Name x px, .Name y py] kt pt] (.Tuple [a, b] k2 pt2) pos.line X.env = pure false := by rfl) (n1 : starEach [a, b] X.env = (false, eval a X.env) :: starEach [b] X.env := by rfl) (n2 : starEach [b] X.env = (false, eval b X.env) :: starEach [] X.env := by rfl) :
    GS X (.Assign [.Tuple [.Name x px, .Name y py] kt pt] (.Tuple [a, b] k2 pt2) pos) (tPar i j (tCons ta (tCons tb tNil))) (mPar2F i j oi ma mb) := ⟨ps_par hc hN hi hj hij hx hy (pa_cons ha.pe (pa_cons hb.pe pa_nil n2) n1) hw hs, fun dr H0i Hi σ ρ H0 H D E B S R L w =>
  snd_sto oi ha.sn B R w fun v g A0 A1 B1 S1 g1 w1 => hb.fr dr Hi σ ρ A0 A1 _ _ B1 (R.step S1) w1 fun u x C0 C1 B2 S2 dv f ⟨x', ex, w2⟩ => by
    cases ex
    refine ⟨v, u, rfl, L.nx _ _ C0 C1 B2 ((S.trans S1).trans S2) ?_ w2⟩
    have R1 : Rs X.K dr Hi A0 A1 (σ.set i (some v)) (ρ.set i (some g)) := R.put S1 i g1 fun p o n => S.free n o
    exact (R1.step S2).set j (.frs dv (f.hi B2 fun q o n => (S.trans S1).free n o)) fun _ e => nomatch e⟩
theorem gs_parCF (oi : Bool) {i j : Nat} {x y : Str} {px py pt : Pos} {kt k2 : Nat} {pt2 : Pos} (hc : X.calm = true) (hN : X.N.Nodup) (hi : X.N[i]? = some x) (hj : X.N[j]? = some y) (hx : Loc X.env.scope x) (hy : Loc X.env.scope y) (ha : GE X a ta ma) (hb : GEf X b tb mb)
    (hs : swapsWithSole [.Tuple [.Name x px, .Name y py] kt pt] (.Tuple [a, b] k2 pt2) pos.line X.env = pure false := by rfl) (hw : swappedStores [.Tuple [.Name x px, .Name y py] kt pt] (.Tuple [a, b] k2 pt2) X.env = pure none := by rfl) (n1 : starEach [a, b] X.env = (false, eval a X.env) :: starEach [b] X.env := by rfl) (n2 : starEach [b] X.env = (false, eval b X.env) :: starEach [] X.env := by rfl)
    (h1 : (assignEach [.Tuple [.Name x px, .Name y py] kt pt] X.env).map (·.2) = [assign (.Tuple [.Name x px, .Name y py] kt pt) X.env] := by rfl) (h2 : (assignEach [.Name x px, .Name y py] X.env).length = 2 := by rfl) (h3 : (assignEach [.Name x px, .Name y py] X.env).findIdx? (·.1) = none := by rfl)
    (h4 : (assignEach [.Name x px, .Name y py] X.env).map (·.2) = assign (.Name x px) X.env :: (assignEach [.Name y py] X.env).map (·.2) := by rfl) (h5 : (assignEach [.Name y py] X.env).map (·.2) = assign (.Name y py) X.env :: (assignEach [] X.env).map (·.2) := by rfl)
    (f1 : X.fn x = true ∨ X.env.scope.names.lookup x = some .local := by first | exact .inl rfl | exact .inr rfl | assumption) (f2 : X.fn y = true ∨ X.env.scope.names.lookup y = some .local := by first | exact .inl rfl | exact .inr rfl | assumption) :
    GS X (.Assign [.Tuple [.Name x px, .Name y py] kt pt] (.Tuple [a, b] k2 pt2) pos) (tAsg (tTup (tCons ta (tCons tb tNil))) (gTup X.K 2 (gCons (gName i) (gCons (gName j) gNil)))) (mPar2F i j oi ma mb) :=
  ⟨ps_asg (pe_tup (pa_cons ha.pe (pa_cons hb.pe pa_nil n2) n1)) (pg_tup hc (pgs_cons (pg_name hN hi hx f1) (pgs_cons (pg_name hN hj hy f2) pgs_nil h5) h4) h2 h3) hs hw h1, fun dr H0i Hi σ ρ H0 H D E B S R L w =>
    snd_sto oi ha.sn B R w fun v g A0 A1 B1 S1 g1 w1 => hb.fr dr Hi σ ρ A0 A1 _ _ B1 (R.step S1) w1 fun u x C0 C1 B2 S2 dv f ⟨x', ex, w2⟩ => ⟨by show 2 ≤ sizeLine; decide, fun q hq => by
      cases ex
      have S3 : Step dr C0 C1 C0 (upd C1 q (.tup [v, u])) := .new hq
      have B3 : Bas dr C0 (upd C1 q (.tup [v, u])) := B2.new hq
      refine ⟨q, [v, u], rfl, .of upd_same, rfl, v, [u], rfl, u, [], rfl, rfl, L.nx _ _ C0 _ B3 (((S.trans S1).trans S2).trans S3) ?_ w2⟩
      have R1 : Rs X.K dr Hi A0 A1 (σ.set i (some v)) (ρ.set i (some g)) := R.put S1 i g1 fun p o n => S.free n o
      exact ((R1.step S2).set j (.frs dv (f.hi B2 fun q o n => (S.trans S1).free n o)) fun _ e => nomatch e).step S3⟩⟩
/-- a list, handed on to be read -/
def mBor (m : GM) : GM := fun ρ P => m ρ fun z => ∃ t xs, z.seq = some (t, xs) ∧ P (.bor t xs)
theorem ge_bor (h : GE X e t m) : GE X e t (mBor m) := ⟨h.pe, fun dr Hi σ ρ H0 H Q P B R w k => h.sn dr Hi σ ρ H0 H _ _ B R w fun v z A0 A1 B1 S1 zv ⟨tt, xs, ez, p⟩ => by
  obtain ⟨a, vs, rfl, hl, da⟩ := zv.seq B1 ez
  exact k _ _ A0 A1 B1 S1 (.bor hl da) p⟩
/-! ### changed and forgotten -/
def keepG : G → Bool
  | .d x => x.no .lst
  | .drw => true
  | .bor _ xs => D.nos .lst xs
  | _ => false
def Keep (ρ ρ' : Env) : Prop := ρ'.length = ρ.length ∧ ∀ (j : Nat) (g : G), ρ'[j]? = some (some g) → ρ[j]? = some (some g) ∧ keepG g = true
/-- what stands still behind a change of a new list -/
theorem forget_step {K : PySem.W.Frag} {dr : Option Dr} {H0i Hi H0 H : Hp} {σ : L2.St} {ρ ρ' : Env} {p : Addr} {vs ws : List V} (B : Bas dr H0 H) (S : Step dr H0i Hi H0 H) (R : Rs K dr Hi H0 H σ ρ) (tp : Same H0i Hi) (hp : H0 p = some (.lst vs)) (hi : Hi p = none) (kp : Keep ρ ρ') :
    ∃ C0, Bas dr C0 (upd H p (.lst ws)) ∧ Step dr H0i Hi C0 (upd H p (.lst ws)) ∧ Rs K dr Hi C0 (upd H p (.lst ws)) σ ρ' := by
  classical
  have op := B.fr _ _ hp
  have H0ip : H0i p = none := by
    cases q : H0i p with
    | none => rfl
    | some o => rw [tp _ _ q] at hi; cases hi
  have smp : GL.smallH .lst H0 p = none := small_lst hp
  have h0p : XCx.act → XCx.h0 p = none := fun a => by
    cases q : XCx.h0 p with
    | none => rfl
    | some o => have := R.hx p a hi; rw [XCx.sb a _ _ q] at this; cases this
  obtain ⟨C0, hC⟩ : ∃ C0 : Hp, C0 = fun a => if (∃ o, H0i a = some o) ∨ (XCx.act ∧ ∃ o, XCx.h0 a = some o) then H0 a else GL.smallH .lst H0 a := ⟨_, rfl⟩
  have sub : Same C0 H0 := fun a o e => by
    rw [hC] at e
    dsimp only at e
    split at e
    · exact e
    · exact small_sub _ _ e
  have C0p : C0 p = none := by
    rw [hC]
    dsimp only
    rw [if_neg]
    · exact smp
    · rintro (⟨o, e⟩ | ⟨a, o, e⟩)
      · rw [H0ip] at e; cases e
      · rw [h0p a] at e; cases e
  have ne : ∀ {a o}, C0 a = some o → a ≠ p := fun e q => by rw [q, C0p] at e; cases e
  have smC : Same (GL.smallH .lst H0) C0 := fun a o e => by
    rw [hC]
    dsimp only
    split
    · exact small_sub _ _ e
    · exact e
  have B' : Bas dr C0 (upd H p (.lst ws)) := ⟨fun a o e => by rw [upd_ne (ne e)]; exact B.ex _ _ (sub _ _ e), fun x e => (B.dw x e).upd (op.1 x e), fun t ht => tabS_upd (B.tb t ht) (op.2 t ht) (by rw [B.ex _ _ hp]; trivial), fun a o e => B.fr _ _ (sub _ _ e)⟩
  refine ⟨C0, B', ⟨fun a o e => ?_, fun a o e => ?_, fun a o k e => S.nw a o k (sub _ _ e)⟩, ?_⟩
  · rw [hC]
    dsimp only
    rw [if_pos (.inl ⟨o, e⟩)]
    exact S.e0 a o e
  · have hne : a ≠ p := by rintro rfl; rw [(hide_some e).1] at hi; cases hi
    rw [upd_ne hne]
    exact S.e1 a o e
  · refine ⟨by rw [kp.1]; exact R.len, fun j g e => ?_, fun i j q xs ys _ e _ => ?_, fun a => ⟨(R.xs a).1, ?_⟩, R.hx⟩
    · obtain ⟨e1, kg⟩ := kp.2 j g e
      obtain ⟨v, hv, gv⟩ := R.at_ j g e1
      refine ⟨v, hv, ?_⟩
      cases gv with
      | d h => exact .d ((h.small kg).mono smC)
      | drw h => exact .drw h
      | bor h1 h2 k => exact .bor h1 (hide_mk (by rw [upd_ne (by rintro rfl; rw [(hide_some h1).1] at hi; cases hi)]; exact (hide_some h2).1) (hide_some h2).2) ((k.small kg).mono smC)
      | _ => cases kg
    · have := (kp.2 i _ e).2
      cases this
    · have s1 := (R.xs a).2
      have h1p := R.hx p a hi
      refine ⟨fun b o e => ?_, fun b o e => ?_, fun b o k e => s1.nw b o k (sub _ _ e)⟩
      · rw [hC]
        dsimp only
        rw [if_pos (.inr ⟨a, o, e⟩)]
        exact s1.e0 b o e
      · have hne : b ≠ p := by rintro rfl; rw [(hide_some e).1] at h1p; cases h1p
        rw [upd_ne hne]
        exact s1.e1 b o e
/-- x.append(c), x's lists being new; then all that holds a list is forgotten -/
def mAppF (i : Nat) : GMS := fun D ρ => D.top = true ∧ ∃ xs ρ', ρ[i]? = some (some (.frs (.lst xs))) ∧ xs.length < sizeLine ∧ Keep ρ ρ' ∧ D.nx ρ'
theorem gs_appF {o : Expr} {i : Nat} {vc : V} {name : Str} {apos cpos : Pos} (he : PE X e (tC vc)) (pe : PE X e (tC vc) → PE X (.Call (.Attribute o name apos) [e] [] cpos) (tBM X.K "list" rAppend (tVar i) (tCons (tC vc) tNil))) (hs : swapsWith (.Call (.Attribute o name apos) [e] [] cpos) none pos.line X.env = pure false := by rfl) :
    GS X (.Expr (.Call (.Attribute o name apos) [e] [] cpos) pos) (tDrop (tBM X.K "list" rAppend (tVar i) (tCons (tC vc) tNil))) (mAppF i) := ⟨ps_expr (pe he) hs, fun dr H0i Hi σ ρ H0 H D E B S R L ⟨top, xs, ρ', hx, hl, kp, w⟩ => by
  obtain ⟨v, hv, gv⟩ := R.at_ i _ hx
  cases gv with
  | frs d f =>
    cases d with
    | @lst p vs _ h k =>
      cases f with
      | atom n => exact absurd rfl (n p)
      | tup h' => rw [h] at h'; cases h'
      | lst h' hi _ =>
        obtain ⟨C0, B', S', R'⟩ := forget_step (ws := vs ++ [vc]) B S R (L.tp top) h hi kp
        exact ⟨_, hv, .inl ⟨rfl, _, .of (B.ex _ _ h)⟩, p, vs, vc, rfl, rfl, B.ex _ _ h, by rw [k.length]; exact hl, L.nx _ _ C0 _ B' S' R' w⟩⟩
/-- x[k].append(c) -/
def mAppF1 (i k : Nat) : GMS := fun D ρ => D.top = true ∧ ∃ ys xs ρ', ρ[i]? = some (some (.frs (.tup ys))) ∧ ys[k]? = some (.lst xs) ∧ xs.length < sizeLine ∧ Keep ρ ρ' ∧ D.nx ρ'
theorem gs_appF1 {o : Expr} {i k : Nat} {vc : V} {name : Str} {apos cpos : Pos} (he : PE X e (tC vc)) (pe : PE X e (tC vc) → PE X (.Call (.Attribute o name apos) [e] [] cpos) (tBM X.K "list" rAppend (tOp (rIxA X.K) (tVar i) (tC (.int k))) (tCons (tC vc) tNil))) (hs : swapsWith (.Call (.Attribute o name apos) [e] [] cpos) none pos.line X.env = pure false := by rfl) :
    GS X (.Expr (.Call (.Attribute o name apos) [e] [] cpos) pos) (tDrop (tBM X.K "list" rAppend (tOp (rIxA X.K) (tVar i) (tC (.int k))) (tCons (tC vc) tNil))) (mAppF1 i k) := ⟨ps_expr (pe he) hs, fun dr H0i Hi σ ρ H0 H D E B S R L ⟨top, ys, xs, ρ', hx, hk, hl, kp, w⟩ => by
  obtain ⟨v, hv, gv⟩ := R.at_ i _ hx
  cases gv with
  | frs d f =>
    cases d with
    | @tup p vs _ h da =>
      cases f with
      | atom n => exact absurd rfl (n p)
      | lst h' => rw [h] at h'; cases h'
      | tup h' fs =>
        rw [h] at h'
        cases h'
        obtain ⟨u, hu, du⟩ := da.get hk
        have fu := fs u (List.mem_of_getElem? hu)
        cases du with
        | @lst q us _ h2 k2 =>
          cases fu with
          | atom n => exact absurd rfl (n q)
          | tup h' => rw [h2] at h'; cases h'
          | lst h' hi _ =>
            obtain ⟨C0, B', S', R'⟩ := forget_step (ws := us ++ [vc]) B S R (L.tp top) h2 hi kp
            refine ⟨_, hv, .inr ⟨p, vs, k, _, rfl, rfl, .of (B.ex _ _ h), atI_nat hu, .inl ⟨rfl, _, .of (B.ex _ _ h2)⟩, q, us, vc, rfl, rfl, B.ex _ _ h2, by rw [k2.length]; exact hl, L.nx _ _ C0 _ B' S' R' w⟩⟩⟩
end
end GL
end
section
set_option linter.all false
set_option maxRecDepth 100000
set_option maxHeartbeats 4000000
namespace GL
open PySem L2 PySem.Calls PyProof.Rows
variable [TabCx] [XCx]
def top (i : Nat) : Stmt := PySem.Challenge.pw_handlocks_k13_rings_apart.main.body.getD i (.Pass ⟨0, 0, 0, 0⟩)
structure Txt (K : PySem.W.Frag) (mg : Str → Option Value) (C : Addr) : Prop where
  abs_ : mg "abs" = none
  all_ : mg "all" = none
  any_ : mg "any" = none
  int_ : mg "int" = none
  isinstance_ : mg "isinstance" = none
  len_ : mg "len" = none
  list_ : mg "list" = none
  max_ : mg "max" = none
  min_ : mg "min" = none
  range_ : mg "range" = none
  repr_ : mg "repr" = none
  set_ : mg "set" = none
  sorted_ : mg "sorted" = none
  str_ : mg "str" = none
  tuple_ : mg "tuple" = none
  LETTERS_ : ∃ t, mg "LETTERS" = some (.str "abcdefghijklmnopqrstuvwxyz" t)
  cl : Cls K C
  _handings_n : NoAttr K C "_handings"
  _parties_n : NoAttr K C "_parties"
  C_Web : mg "Web" = some (.ref C)
section
variable {P : Program} {w : World} {K : PySem.W.Frag} {mg : Str → Option Value} {base : Heap} {cdv : Value} {A : Around} {outer : List PySem.Env} {s : Shared} {H : Hp} {E : XK} {f : Addr} {qual : Str} {C : Addr}
/-! ### _law_begin -/
abbrev st__law_begin : Stmt := top 25
def N__law_begin : List Str := ["_law_script", "_law_great", "_law_cell"]
theorem sc__law_begin : FnScope N__law_begin ["_law_script"] (defScope st__law_begin) := ⟨rfl, rfl, rfl, by decide +kernel, rfl, by decide +kernel, by decide +kernel⟩
def m__law_begin (K : PySem.W.Frag) (C : Addr) : GMS := (mSetO 1 (mLc (mWalkScr 0) (mgN 2) (mTst (mOp fGe (mCB fAbs (mACons (mVar 2) mANil)) (mOp fPow (mC (.int 10)) (mC (.int 18))))) (mDat (mOp fSub (mCB fAbs (mACons (mVar 2) mANil)) (mOp fPow (mC (.int 10)) (mC (.int 18))))) (List.map (fun x => x.2) ([("_law_cell", 2)] : List (Str × Nat)))))
theorem d__law_begin (T : Txt K mg C)  (hr : Room 1 (A.deeper (envOfC qual (defScope st__law_begin) s.heap.objs.size f cdv))) : ∃ t, GS (cxOf CX0 P w K mg base N__law_begin qual (defScope st__law_begin) f cdv A outer s H E).nox ((defBody st__law_begin).headD (.Pass ⟨0, 0, 0, 0⟩)) t (m__law_begin K C) := by
  exact ⟨_, (gs_setLcO (tG := (gName 2)) (tt := (tTest (tOp (rI0 fun i j => .bl (decide (j ≤ i))) (tCB rAbs (tCons (tVar 2) tNil)) (tOp (rI CPow fun i j => .int (i ^ j.toNat)) (tC (.int 10)) (tC (.int 18)))))) (te := (tOp (rI0 fun i j => .int (i - j)) (tCB rAbs (tCons (tVar 2) tNil)) (tOp (rI CPow fun i j => .int (i ^ j.toNat)) (tC (.int 10)) (tC (.int 18))))) rfl sc__law_begin.nd (i := 1) rfl rfl rfl (GI.c (gi_scr (gv 0).pe)) (own := [("_law_cell", 2)]) (blk_by (by kernel_rfl)) (fun _ _ _ _ _ => (gg_name sc__law_begin.nd rfl (by first | exact Or.inl rfl | exact Or.inr rfl))) (fun _ _ _ _ _ => (gts_one (gt_cmp op_ge os_ge (ge_cb cr_abs cs_abs rfl T.abs_ (by decide +kernel) (ga_cons (gv 2) ga_nil)) (ge_op op_pow os_pow gi gi) (nomark _)))) (fun _ _ _ _ _ => (gd (ge_op op_sub os_sub (ge_cb cr_abs cs_abs rfl T.abs_ (by decide +kernel) (ga_cons (gv 2) ga_nil)) (ge_op op_pow os_pow gi gi)))))⟩
/-! ### _law_blend -/
abbrev st__law_blend : Stmt := top 26
def N__law_blend : List Str := ["_law_draw", "_law_turn", "_law_found", "_law_prime", "_law_blend_here", "_law_cell"]
theorem sc__law_blend : FnScope N__law_blend ["_law_draw"] (defScope st__law_blend) := ⟨rfl, rfl, rfl, by decide +kernel, rfl, by decide +kernel, by decide +kernel⟩
def m__law_blend (K : PySem.W.Frag) (C : Addr) : GMS := (mSeq (mSet 1 (mOp fAdd (mDrI 0) (mC (.int 1)))) (mSeq (mDrS 0 (mVar 1)) (mSeq (mSet 2 (mC (.int 0))) (mSeq (mFor (mWalkD (mDat (mLst (mLCons (mDat (mC (.int 2147483629))) (mLCons (mDat (mC (.int 2147483587))) (mLCons (mDat (mC (.int 2147483579))) (mLCons (mDat (mC (.int 2147483563))) mLNil))))))) (mgN 3) (mSeq (mSet 4 (mOp fMod (mCB fInt1 (mACons (mOp fAdd (mOp fMul (mVar 1) (mC (.int 69621))) (mOp fFdiv (mVar 3) (mC (.int 7)))) mANil)) (mVar 3))) (mSeq (mFor (mCells 0) (mgN 5) (mSet 4 (mOp fMod (mCB fInt1 (mACons (mOp fAdd (mOp fMul (mVar 4) (mC (.int 48271))) (mVar 5)) mANil)) (mVar 3)))) (mSet 2 (mOp fAdd (mOp fMul (mVar 2) (mC (.int 2147483647))) (mOp fMod (mCB fInt1 (mACons (mOp fPow (mVar 4) (mC (.int 5))) mANil)) (mVar 3))))))) (mRet (mVar 2))))))
theorem d__law_blend (T : Txt K mg C)  (hr : Room 1 (A.deeper (envOfC qual (defScope st__law_blend) s.heap.objs.size f cdv))) : ∃ t, GSs (cxOf CX0 P w K mg base N__law_blend qual (defScope st__law_blend) f cdv A outer s H E).nox (defBody st__law_blend) t (m__law_blend K C) := by
  exact ⟨_, (gss_cons (gs_set (i := 1) sc__law_blend.nd rfl (by first | exact Or.inl rfl | exact Or.inr rfl) (ge_op op_addA os_add (ge_drI (by first | exact Or.inl rfl | exact Or.inr rfl) (hu_of hr) (gv 0).pe) gi)) (gss_cons (gs_drI (by first | exact Or.inl rfl | exact Or.inr rfl) (hu_of hr) (gv 0).pe (gv 1)) (gss_cons (gs_set (i := 2) sc__law_blend.nd rfl (by first | exact Or.inl rfl | exact Or.inr rfl) gi) (gss_cons (gs_for PassesOwn.never rfl (gi_seq (gd (ge_lst (gl_cons (gd gi) (gl_cons (gd gi) (gl_cons (gd gi) (gl_cons (gd gi) gl_nil))))))) (gg_name sc__law_blend.nd rfl (by first | exact Or.inl rfl | exact Or.inr rfl)) (gss_cons (gs_set (i := 4) sc__law_blend.nd rfl (by first | exact Or.inl rfl | exact Or.inr rfl) (ge_op op_mod os_mod (ge_ct cr_int1 cs_int1 rfl T.int_ (by decide +kernel) (ga_cons (ge_op op_addA os_add (ge_op op_mul os_mul (gv 1) gi) (ge_op op_fdiv os_fdiv (gv 3) gi)) ga_nil)) (gv 3))) (gss_cons (gs_for PassesOwn.never rfl (gi_cells (hu_of hr) (gv 0).pe) (gg_name sc__law_blend.nd rfl (by first | exact Or.inl rfl | exact Or.inr rfl)) (gss_one (gs_set (i := 4) sc__law_blend.nd rfl (by first | exact Or.inl rfl | exact Or.inr rfl) (ge_op op_mod os_mod (ge_ct cr_int1 cs_int1 rfl T.int_ (by decide +kernel) (ga_cons (ge_op op_addA os_add (ge_op op_mul os_mul (gv 4) gi) (gv 5)) ga_nil)) (gv 3))))) (gss_one (gs_set (i := 2) sc__law_blend.nd rfl (by first | exact Or.inl rfl | exact Or.inr rfl) (ge_op op_addA os_add (ge_op op_mul os_mul (gv 2) gi) (ge_op op_mod os_mod (ge_ct cr_int1 cs_int1 rfl T.int_ (by decide +kernel) (ga_cons (ge_op op_pow os_pow (gv 4) gi) ga_nil)) (gv 3)))))))) (gss_one (gs_ret (gv 2)))))))⟩
/-! ### _law_take -/
abbrev st__law_take : Stmt := top 29
def N__law_take : List Str := ["_law_draw", "_law_size", "_law_found"]
theorem sc__law_take : FnScope N__law_take ["_law_draw", "_law_size"] (defScope st__law_take) := ⟨rfl, rfl, rfl, by decide +kernel, rfl, by decide +kernel, by decide +kernel⟩
def m__law_take (K : PySem.W.Frag) (C : Addr) (S__law_blend : Spc) : GMS := (mSeq (mDrPop 0) (mSeq (mIf (mTst (mOp (fEq false) (mDrI 0) (mC (.int 0)))) (mDrS 0 (mCall S__law_blend (mACons (mVar 0) mANil))) mNext) (mSeq (mSet 2 (mOp fMod (mCB fInt1 (mACons (mDrI 0) mANil)) (mVar 1))) (mSeq (mDrS 0 (mOp fFdiv (mDrI 0) (mVar 1))) (mRet (mVar 2))))))
theorem d__law_take (T : Txt K mg C) {S__law_blend : Spc} (D__law_blend : Df P w K mg base 2 "_law_blend" ["_law_draw"] S__law_blend) (hr : Room 2 (A.deeper (envOfC qual (defScope st__law_take) s.heap.objs.size f cdv))) : ∃ t, GSs (cxOf CX0 P w K mg base N__law_take qual (defScope st__law_take) f cdv A outer s H E).nox (defBody st__law_take) t (m__law_take K C S__law_blend) := by
  exact ⟨_, (gss_cons (gs_drPop (pw_and (pt_cmpR (op_eqD hr.units) (pe_dget (hu_of hr) (gv 0).pe pe_str fun _ _ => rfl) pe_int (nomark _)) (pw_and1 (pt_cmpR (op_neD hr.units) (pe_dget (hu_of hr) (gv 0).pe pe_str fun _ _ => rfl) (pe_lst pa_nil) (nomark _)))).pt (pss_one (ps_dput (hu_of hr) (gv 0).pe pe_str (pe_popG (pe_dget (hu_of hr) (gv 0).pe pe_str fun _ _ => rfl) pe_int) rfl))) (gss_cons (gs_if (gt_cmp (op_eqD hr.units) os_eq (ge_drI (by first | exact Or.inl rfl | exact Or.inr rfl) (hu_of hr) (gv 0).pe) gi (nomark _)) (gss_one (gs_drI (by first | exact Or.inl rfl | exact Or.inr rfl) (hu_of hr) (gv 0).pe (ge_callD D__law_blend (hr.mono (by decide)) rfl (ga_cons (gv 0) ga_nil)))) gss_nil) (gss_cons (gs_set (i := 2) sc__law_take.nd rfl (by first | exact Or.inl rfl | exact Or.inr rfl) (ge_op op_mod os_mod (ge_ct cr_int1 cs_int1 rfl T.int_ (by decide +kernel) (ga_cons (ge_drI (by first | exact Or.inl rfl | exact Or.inr rfl) (hu_of hr) (gv 0).pe) ga_nil)) (gv 1))) (gss_cons (gs_drI (by first | exact Or.inl rfl | exact Or.inr rfl) (hu_of hr) (gv 0).pe (ge_op op_fdiv os_fdiv (ge_drI (by first | exact Or.inl rfl | exact Or.inr rfl) (hu_of hr) (gv 0).pe) (gv 1))) (gss_one (gs_ret (gv 2)))))))⟩
/-! ### _law_pick -/
abbrev st__law_pick : Stmt := top 27
def N__law_pick : List Str := ["_law_draw", "_law_some"]
theorem sc__law_pick : FnScope N__law_pick ["_law_draw", "_law_some"] (defScope st__law_pick) := ⟨rfl, rfl, rfl, by decide +kernel, rfl, by decide +kernel, by decide +kernel⟩
def m__law_pick (K : PySem.W.Frag) (C : Addr) (S__law_take : Spc) : GMS := (mRet (mOp fIxS (mVar 1) (mCall S__law_take (mACons (mVar 0) (mACons (mCB fLen (mACons (mVar 1) mANil)) mANil)))))
theorem d__law_pick (T : Txt K mg C) {S__law_take : Spc} (D__law_take : Df P w K mg base 3 "_law_take" ["_law_draw", "_law_size"] S__law_take) (hr : Room 3 (A.deeper (envOfC qual (defScope st__law_pick) s.heap.objs.size f cdv))) : ∃ t, GSs (cxOf CX0 P w K mg base N__law_pick qual (defScope st__law_pick) f cdv A outer s H E).nox (defBody st__law_pick) t (m__law_pick K C S__law_take) := by
  exact ⟨_, (gss_one (gs_ret (ge_ixSG (gv 1) (ge_callD D__law_take (hr.mono (by decide)) rfl (ga_cons (gv 0) (ga_cons (ge_cb cr_lenA cs_len rfl T.len_ (by decide +kernel) (ga_cons (gv 1) ga_nil)) ga_nil))))))⟩
/-! ### _law_names -/
abbrev st__law_names : Stmt := top 30
def N__law_names : List Str := ["_law_draw", "_law_size", "_law_letters", "_law_found", "_law_k", "_law_word", "_law_near", "_law_letter", "_law_j", "_law_one"]
theorem sc__law_names : FnScope N__law_names ["_law_draw", "_law_size"] (defScope st__law_names) := ⟨rfl, rfl, rfl, by decide +kernel, rfl, by decide +kernel, by decide +kernel⟩
def m__law_names (K : PySem.W.Frag) (C : Addr) (S__law_pick S__law_take : Spc) : GMS := (mSeq (mPar2 2 3 false true (mC (.str "abcdefghijklmnopqrstuvwxyz")) (mLst mLNil)) (mSeq (mFor (mRng1 (mACons (mVar 1) mANil)) (mgN 4) (mSeq (mSet 5 (mCall S__law_pick (mACons (mVar 0) (mACons (mLst (mLCons (mDat (mC (.str "a"))) (mLCons (mDat (mC (.str "b"))) (mLCons (mDat (mC (.str "x"))) (mLCons (mDat (mC (.str "lay"))) (mLCons (mDat (mC (.str "tick"))) (mLCons (mDat (mC (.str "hand"))) (mLCons (mDat (mC (.str "wait"))) (mLCons (mDat (mC (.str "party"))) (mLCons (mDat (mC (.str "zzzzzz"))) mLNil)))))))))) mANil)))) (mSeq (mIf (mTst (mOp (fEq false) (mCall S__law_take (mACons (mVar 0) (mACons (mC (.int 2)) mANil))) (mC (.int 0)))) (mSet 5 (mJoin (mC (.str "")) (mLc (mRng1 (mACons (mOp fAdd (mC (.int 1)) (mCall S__law_take (mACons (mVar 0) (mACons (mC (.int 6)) mANil)))) mANil)) (mgN 8) mYes (mDat (mCall S__law_pick (mACons (mVar 0) (mACons (mVar 2) mANil)))) (List.map (fun x => x.2) ([("_law_j", 8)] : List (Str × Nat)))))) mNext) (mSeq (mSet 6 (mOp fAdd (mLst (mLCons (mDat (mVar 5)) mLNil)) (mLc (mWalkS (mVar 2)) (mgN 7) mYes (mDat (mOp fAdd (mSl (mVar 5) mONone (mOSome (mC (.int 5)))) (mVar 7))) (List.map (fun x => x.2) ([("_law_letter", 7)] : List (Str × Nat)))))) (mApp 3 (mDat (mOp fIx (mLc (mWalk (mVar 6)) (mgN 9) (mTst (mOp (fIn true) (mVar 9) (mVar 3))) (mDat (mVar 9)) (List.map (fun x => x.2) ([("_law_one", 9)] : List (Str × Nat)))) (mC (.int 0))))))))) (mRetO 3)))
theorem d__law_names (T : Txt K mg C) {S__law_pick S__law_take : Spc} (D__law_pick : Df P w K mg base 4 "_law_pick" ["_law_draw", "_law_some"] S__law_pick) (D__law_take : Df P w K mg base 3 "_law_take" ["_law_draw", "_law_size"] S__law_take) (hr : Room 4 (A.deeper (envOfC qual (defScope st__law_names) s.heap.objs.size f cdv))) : ∃ t, GSs (cxOf CX0 P w K mg base N__law_names qual (defScope st__law_names) f cdv A outer s H E).nox (defBody st__law_names) t (m__law_names K C S__law_pick S__law_take) := by
  exact ⟨_, (gss_cons (gs_parC false true (i := 2) (j := 3) rfl sc__law_names.nd rfl rfl (by first | exact Or.inl rfl | exact Or.inr rfl) (by first | exact Or.inl rfl | exact Or.inr rfl) gs (ge_lst gl_nil)) (gss_cons (gs_for PassesOwn.never rfl (gi_rng1 rfl T.range_ (ga_cons (gv 1) ga_nil)) (gg_name sc__law_names.nd rfl (by first | exact Or.inl rfl | exact Or.inr rfl)) (gss_cons (gs_set (i := 5) sc__law_names.nd rfl (by first | exact Or.inl rfl | exact Or.inr rfl) (ge_callD D__law_pick (hr.mono (by decide)) rfl (ga_cons (gv 0) (ga_cons (ge_lst (gl_cons (gd gs) (gl_cons (gd gs) (gl_cons (gd gs) (gl_cons (gd gs) (gl_cons (gd gs) (gl_cons (gd gs) (gl_cons (gd gs) (gl_cons (gd gs) (gl_cons (gd gs) gl_nil)))))))))) ga_nil)))) (gss_cons (gs_if (gt_cmp (op_eqD hr.units) os_eq (ge_callD D__law_take (hr.mono (by decide)) rfl (ga_cons (gv 0) (ga_cons gi ga_nil))) gi (nomark _)) (gss_one (gs_set (i := 5) sc__law_names.nd rfl (by first | exact Or.inl rfl | exact Or.inr rfl) (ge_join gs (ge_lc (tG := (gName 8)) (tt := tYes) (te := (tCall (GSp S__law_pick) [] E0 (tCons (tVar 0) (tCons (tVar 2) tNil)))) rfl sc__law_names.nd (GI.c (gi_rng1 rfl T.range_ (ga_cons (ge_op op_addA os_add gi (ge_callD D__law_take (hr.mono (by decide)) (by rfl) (ga_cons (gv 0) (ga_cons gi ga_nil)))) ga_nil))) (own := [("_law_j", 8)]) (blk_by (by kernel_rfl)) (fun _ _ _ _ _ => (gg_name sc__law_names.nd rfl (by first | exact Or.inl rfl | exact Or.inr rfl))) (fun _ _ _ _ _ => gts_nil) (fun _ _ _ _ _ => (gd (ge_callD D__law_pick (hr.mono (by decide)) (by rfl) (ga_cons (gv 0) (ga_cons (gv 2) ga_nil)))))) fun h1 h2 => pe_join h1 h2))) gss_nil) (gss_cons (gs_set (i := 6) sc__law_names.nd rfl (by first | exact Or.inl rfl | exact Or.inr rfl) (ge_op op_addA os_add (ge_lst (gl_cons (gd (gv 5)) gl_nil)) (ge_lc (tG := (gName 7)) (tt := tYes) (te := (tOp (rAddA K) (tSl (rSlAny K) (tVar 5) tNoPart (tPart (tC (.int 5)))) (tVar 7))) rfl sc__law_names.nd (GI.c (gi_str (gv 2))) (own := [("_law_letter", 7)]) (blk_by (by kernel_rfl)) (fun _ _ _ _ _ => (gg_name sc__law_names.nd rfl (by first | exact Or.inl rfl | exact Or.inr rfl))) (fun _ _ _ _ _ => gts_nil) (fun _ _ _ _ _ => (gd (ge_op op_addA os_add (ge_sl (gv 5) go_none (go_some gi)) (gv 7))))))) (gss_one (gs_app (i := 3) (gd (ge_ixG (ge_lc (tG := (gName 9)) (tt := (tTest (tOp (rInA K true) (tVar 9) (tVar 3)))) (te := (tVar 9)) rfl sc__law_names.nd (gi_seqC (gv 6)) (own := [("_law_one", 9)]) (blk_by (by kernel_rfl)) (fun _ _ _ _ _ => (gg_name sc__law_names.nd rfl (by first | exact Or.inl rfl | exact Or.inr rfl))) (fun _ _ _ _ _ => (gts_one (gt_cmp (op_notInA (Room_un65 hr)) (os_in true) (gv 9) (gv 3) rfl))) (fun _ _ _ _ _ => (gd (gv 9)))) gi)) fun h => pe_appendG (gv 3).pe h)))))) (gss_one (gs_retO (i := 3) (gv 3).pe))))⟩
/-! ### _law_mixed -/
abbrev st__law_mixed : Stmt := top 28
def N__law_mixed : List Str := ["_law_draw", "_law_some", "_law_left", "_law_found"]
theorem sc__law_mixed : FnScope N__law_mixed ["_law_draw", "_law_some"] (defScope st__law_mixed) := ⟨rfl, rfl, rfl, by decide +kernel, rfl, by decide +kernel, by decide +kernel⟩
def m__law_mixed (K : PySem.W.Frag) (C : Addr) (S__law_take : Spc) : GMS := (mSeq (mPar2 2 3 true true (mCB fList (mACons (mVar 1) mANil)) (mLst mLNil)) (mSeq (mWh (mTst (mOp (fEq true) (mVar 2) (mLst mLNil))) (mAppPop 3 2 (mCall S__law_take (mACons (mVar 0) (mACons (mCB fLen (mACons (mVar 2) mANil)) mANil))))) (mRetO 3)))
theorem d__law_mixed (T : Txt K mg C) {S__law_take : Spc} (D__law_take : Df P w K mg base 3 "_law_take" ["_law_draw", "_law_size"] S__law_take) (hr : Room 3 (A.deeper (envOfC qual (defScope st__law_mixed) s.heap.objs.size f cdv))) : ∃ t, GSs (cxOf CX0 P w K mg base N__law_mixed qual (defScope st__law_mixed) f cdv A outer s H E).nox (defBody st__law_mixed) t (m__law_mixed K C S__law_take) := by
  exact ⟨_, (gss_cons (gs_par2 true true (i := 2) (j := 3) rfl sc__law_mixed.nd rfl rfl (by decide) rfl rfl (ge_ct call_list_of cs_list rfl T.list_ (by decide +kernel) (ga_cons (gv 1) ga_nil)) (ge_lst gl_nil) rfl) (gss_cons (gs_while PassesOwn.never (gt_cmp (op_neD hr.units) os_ne (gv 2) (ge_lst gl_nil) (nomark _)) (gss_one (gs_appPop (ge_callD D__law_take (hr.mono (by decide)) rfl (ga_cons (gv 0) (ga_cons (ge_cb cr_lenA cs_len rfl T.len_ (by decide +kernel) (ga_cons (gv 2) ga_nil)) ga_nil))) fun h => pe_appendG (gv 3).pe (pe_popG (gv 2).pe h)))) (gss_one (gs_retO (i := 3) (gv 3).pe))))⟩
/-! ### _law_pairs -/
abbrev st__law_pairs : Stmt := top 31
def N__law_pairs : List Str := ["_law_some", "_law_found", "_law_one", "_law_other"]
theorem sc__law_pairs : FnScope N__law_pairs ["_law_some"] (defScope st__law_pairs) := ⟨rfl, rfl, rfl, by decide +kernel, rfl, by decide +kernel, by decide +kernel⟩
def m__law_pairs (K : PySem.W.Frag) (C : Addr) : GMS := (mSeq (mSet 1 (mLst mLNil)) (mSeq (mFor (mWalkD (mDat (mVar 0))) (mgN 2) (mSet 1 (mOp fAdd (mVar 1) (mLc (mWalk (mVar 0)) (mgN 3) (mTst (mOp (fEq true) (mVar 3) (mVar 2))) (mDat (mTup (mLCons (mDat (mVar 2)) (mLCons (mDat (mVar 3)) mLNil)))) (List.map (fun x => x.2) ([("_law_other", 3)] : List (Str × Nat))))))) (mRet (mVar 1))))
theorem d__law_pairs (T : Txt K mg C)  (hr : Room 1 (A.deeper (envOfC qual (defScope st__law_pairs) s.heap.objs.size f cdv))) : ∃ t, GSs (cxOf CX0 P w K mg base N__law_pairs qual (defScope st__law_pairs) f cdv A outer s H E).nox (defBody st__law_pairs) t (m__law_pairs K C) := by
  exact ⟨_, (gss_cons (gs_set (i := 1) sc__law_pairs.nd rfl (by first | exact Or.inl rfl | exact Or.inr rfl) (ge_lst gl_nil)) (gss_cons (gs_for PassesOwn.never rfl (gi_seq (gd (gv 0))) (gg_name sc__law_pairs.nd rfl (by first | exact Or.inl rfl | exact Or.inr rfl)) (gss_one (gs_set (i := 1) sc__law_pairs.nd rfl (by first | exact Or.inl rfl | exact Or.inr rfl) (ge_op op_addA os_add (gv 1) (ge_lc (tG := (gName 3)) (tt := (tTest (tOp (rNeD K) (tVar 3) (tVar 2)))) (te := (tTup (tCons (tVar 2) (tCons (tVar 3) tNil)))) rfl sc__law_pairs.nd (gi_seqC (gv 0)) (own := [("_law_other", 3)]) (blk_by (by kernel_rfl)) (fun _ _ _ _ _ => (gg_name sc__law_pairs.nd rfl (by first | exact Or.inl rfl | exact Or.inr rfl))) (fun _ _ _ _ _ => (gts_one (gt_cmp (op_neD hr.units) os_ne (gv 3) (gv 2) (nomark _)))) (fun _ _ _ _ _ => (gd (ge_tup (gl_cons (gd (gv 2)) (gl_cons (gd (gv 3)) gl_nil)))))))))) (gss_one (gs_ret (gv 1)))))⟩
/-! ### _law_model -/
abbrev st__law_model : Stmt := top 32
def N__law_model : List Str := ["_law_draw", "_law_most_here", "_law_many", "_law_dots", "_law_sort", "_law_row", "_law_ties", "_law_more", "_law_room", "_law_wish", "_law_size", "_law_k", "_law_pair", "_law_other"]
theorem sc__law_model : FnScope N__law_model ["_law_draw", "_law_most_here", "_law_many"] (defScope st__law_model) := ⟨rfl, rfl, rfl, by decide +kernel, rfl, by decide +kernel, by decide +kernel⟩
def m__law_model (K : PySem.W.Frag) (C : Addr) (S__law_mixed S__law_names S__law_pairs S__law_pick S__law_take : Spc) : GMS := (mSeq (mPar2 3 4 false false (mCall S__law_names (mACons (mVar 0) (mACons (mOp fAdd (mC (.int 2)) (mCall S__law_take (mACons (mVar 0) (mACons (mOp fSub (mVar 1) (mC (.int 1))) mANil)))) mANil))) (mCall S__law_take (mACons (mVar 0) (mACons (mC (.int 5)) mANil)))) (mSeq (mSet 5 (mCall S__law_mixed (mACons (mVar 0) (mACons (mVar 3) mANil)))) (mSeq (mSet 6 (mLc (mRng2 (mACons (mC (.int 1)) (mACons (mCB fLen (mACons (mVar 5) mANil)) mANil))) (mgN 11) mYes (mDat (mTup (mLCons (mDat (mOp fIx (mVar 5) (mOp fSub (mVar 11) (mC (.int 1))))) (mLCons (mDat (mOp fIx (mVar 5) (mVar 11))) mLNil)))) (List.map (fun x => x.2) ([("_law_k", 11)] : List (Str × Nat))))) (mSeq (mIf (mTst (mOp fLt (mVar 4) (mC (.int 2)))) (mSet 6 (mOp fAdd (mVar 6) (mLst (mLCons (mDat (mTup (mLCons (mDat (mOp fIx (mVar 5) (mC (.int (-1))))) (mLCons (mDat (mOp fIx (mVar 5) (mC (.int 0)))) mLNil)))) mLNil)))) (mIf (mTst (mOp (fEq false) (mVar 4) (mC (.int 2)))) (mSet 6 (mOp fAdd (mLc (mWalk (mSl (mVar 5) (mOSome (mC (.int 1))) mONone)) (mgN 13) mYes (mDat (mTup (mLCons (mDat (mOp fIx (mVar 5) (mC (.int 0)))) (mLCons (mDat (mVar 13)) mLNil)))) (List.map (fun x => x.2) ([("_law_other", 13)] : List (Str × Nat)))) (mLc (mWalk (mSl (mVar 5) (mOSome (mC (.int 1))) mONone)) (mgN 13) mYes (mDat (mTup (mLCons (mDat (mVar 13)) (mLCons (mDat (mOp fIx (mVar 5) (mC (.int 0)))) mLNil)))) (List.map (fun x => x.2) ([("_law_other", 13)] : List (Str × Nat)))))) (mIf (mTst (mOp (fEq false) (mVar 4) (mC (.int 3)))) (mSet 6 (mLst mLNil)) mNext))) (mSeq (mSet 7 (mLc (mWalk (mCall S__law_mixed (mACons (mVar 0) (mACons (mCall S__law_pairs (mACons (mVar 3) mANil)) mANil)))) (mgN 12) (mTst (mOp (fIn true) (mVar 12) (mVar 6))) (mDat (mVar 12)) (List.map (fun x => x.2) ([("_law_pair", 12)] : List (Str × Nat))))) (mSeq (mSet 8 (mCB (fMM true) (mACons (mC (.int 0)) (mACons (mOp fSub (mVar 2) (mCB fLen (mACons (mVar 6) mANil))) mANil)))) (mSeq (mSet 9 (mCall S__law_pick (mACons (mVar 0) (mACons (mLst (mLCons (mDat (mCall S__law_take (mACons (mVar 0) (mACons (mC (.int 3)) mANil)))) (mLCons (mDat (mCall S__law_take (mACons (mVar 0) (mACons (mOp fAdd (mVar 8) (mC (.int 1))) mANil)))) (mLCons (mDat (mOp fAdd (mC (.int 1)) (mCall S__law_take (mACons (mVar 0) (mACons (mC (.int 4)) mANil))))) mLNil)))) mANil)))) (mSeq (mSet 10 (mCB fMin3 (mACons (mCB fLen (mACons (mVar 7) mANil)) (mACons (mVar 8) (mACons (mVar 9) mANil))))) (mSeq (mSet 6 (mSl (mOp fAdd (mVar 6) (mSl (mVar 7) mONone (mOSome (mVar 10)))) mONone (mOSome (mVar 2)))) (mRet (mDisp ["dots", "ties"] (mLCons (mDat (mCB fSorted (mACons (mVar 3) mANil))) (mLCons (mDat (mCB fSorted (mACons (mIfE (mTst (mOp (fEq true) (mVar 6) (mLst mLNil))) (mVar 6) (mSl (mVar 7) mONone (mOSome (mC (.int 1))))) mANil))) mLNil)))))))))))))
theorem d__law_model (T : Txt K mg C) {S__law_mixed S__law_names S__law_pairs S__law_pick S__law_take : Spc} (D__law_mixed : Df P w K mg base 4 "_law_mixed" ["_law_draw", "_law_some"] S__law_mixed) (D__law_names : Df P w K mg base 5 "_law_names" ["_law_draw", "_law_size"] S__law_names) (D__law_pairs : Df P w K mg base 2 "_law_pairs" ["_law_some"] S__law_pairs) (D__law_pick : Df P w K mg base 4 "_law_pick" ["_law_draw", "_law_some"] S__law_pick) (D__law_take : Df P w K mg base 3 "_law_take" ["_law_draw", "_law_size"] S__law_take) (hr : Room 5 (A.deeper (envOfC qual (defScope st__law_model) s.heap.objs.size f cdv))) : ∃ t, GSs (cxOf CX0 P w K mg base N__law_model qual (defScope st__law_model) f cdv A outer s H E).nox (defBody st__law_model) t (m__law_model K C S__law_mixed S__law_names S__law_pairs S__law_pick S__law_take) := by
  exact ⟨_, (gss_cons (gs_par2 false false (i := 3) (j := 4) rfl sc__law_model.nd rfl rfl (by decide) rfl rfl (ge_callD D__law_names (hr.mono (by decide)) rfl (ga_cons (gv 0) (ga_cons (ge_op op_addA os_add gi (ge_callD D__law_take (hr.mono (by decide)) rfl (ga_cons (gv 0) (ga_cons (ge_op op_sub os_sub (gv 1) gi) ga_nil)))) ga_nil))) (ge_callD D__law_take (hr.mono (by decide)) rfl (ga_cons (gv 0) (ga_cons gi ga_nil))) rfl) (gss_cons (gs_set (i := 5) sc__law_model.nd rfl (by first | exact Or.inl rfl | exact Or.inr rfl) (ge_callD D__law_mixed (hr.mono (by decide)) rfl (ga_cons (gv 0) (ga_cons (gv 3) ga_nil)))) (gss_cons (gs_set (i := 6) sc__law_model.nd rfl (by first | exact Or.inl rfl | exact Or.inr rfl) (ge_lc (tG := (gName 11)) (tt := tYes) (te := (tTup (tCons (tOp (rIxA K) (tVar 5) (tOp (rI0 fun i j => .int (i - j)) (tVar 11) (tC (.int 1)))) (tCons (tOp (rIxA K) (tVar 5) (tVar 11)) tNil)))) rfl sc__law_model.nd (GI.c (gi_rng2 rfl T.range_ (ga_cons gi (ga_cons (ge_cb cr_lenA cs_len rfl T.len_ (by decide +kernel) (ga_cons (gv 5) ga_nil)) ga_nil)))) (own := [("_law_k", 11)]) (blk_by (by kernel_rfl)) (fun _ _ _ _ _ => (gg_name sc__law_model.nd rfl (by first | exact Or.inl rfl | exact Or.inr rfl))) (fun _ _ _ _ _ => gts_nil) (fun _ _ _ _ _ => (gd (ge_tup (gl_cons (gd (ge_ixG (gv 5) (ge_op op_sub os_sub (gv 11) gi))) (gl_cons (gd (ge_ixG (gv 5) (gv 11))) gl_nil))))))) (gss_cons (gs_if (gt_cmp op_lt os_lt (gv 4) gi (nomark _)) (gss_one (gs_set (i := 6) sc__law_model.nd rfl (by first | exact Or.inl rfl | exact Or.inr rfl) (ge_op op_addA os_add (gv 6) (ge_lst (gl_cons (gd (ge_tup (gl_cons (gd (ge_ixG (gv 5) ge_neg1)) (gl_cons (gd (ge_ixG (gv 5) gi)) gl_nil)))) gl_nil))))) (gss_one (gs_if (gt_cmp (op_eqD hr.units) os_eq (gv 4) gi (nomark _)) (gss_one (gs_set (i := 6) sc__law_model.nd rfl (by first | exact Or.inl rfl | exact Or.inr rfl) (ge_op op_addA os_add (ge_lc (tG := (gName 13)) (tt := tYes) (te := (tTup (tCons (tOp (rIxA K) (tVar 5) (tC (.int 0))) (tCons (tVar 13) tNil)))) rfl sc__law_model.nd (gi_seqC (ge_sl (gv 5) (go_some gi) go_none)) (own := [("_law_other", 13)]) (blk_by (by kernel_rfl)) (fun _ _ _ _ _ => (gg_name sc__law_model.nd rfl (by first | exact Or.inl rfl | exact Or.inr rfl))) (fun _ _ _ _ _ => gts_nil) (fun _ _ _ _ _ => (gd (ge_tup (gl_cons (gd (ge_ixG (gv 5) gi)) (gl_cons (gd (gv 13)) gl_nil)))))) (ge_lc (tG := (gName 13)) (tt := tYes) (te := (tTup (tCons (tVar 13) (tCons (tOp (rIxA K) (tVar 5) (tC (.int 0))) tNil)))) rfl sc__law_model.nd (gi_seqC (ge_sl (gv 5) (go_some gi) go_none)) (own := [("_law_other", 13)]) (blk_by (by kernel_rfl)) (fun _ _ _ _ _ => (gg_name sc__law_model.nd rfl (by first | exact Or.inl rfl | exact Or.inr rfl))) (fun _ _ _ _ _ => gts_nil) (fun _ _ _ _ _ => (gd (ge_tup (gl_cons (gd (gv 13)) (gl_cons (gd (ge_ixG (gv 5) gi)) gl_nil))))))))) (gss_one (gs_if (gt_cmp (op_eqD hr.units) os_eq (gv 4) gi (nomark _)) (gss_one (gs_set (i := 6) sc__law_model.nd rfl (by first | exact Or.inl rfl | exact Or.inr rfl) (ge_lst gl_nil))) gss_nil))))) (gss_cons (gs_setLc (tG := (gName 12)) (tt := (tTest (tOp (rInA K true) (tVar 12) (tVar 6)))) (te := (tVar 12)) rfl sc__law_model.nd (i := 7) rfl rfl rfl (gi_seqC (ge_callD D__law_mixed (hr.mono (by decide)) (by rfl) (ga_cons (gv 0) (ga_cons (ge_callD D__law_pairs (hr.mono (by decide)) (by rfl) (ga_cons (gv 3) ga_nil)) ga_nil)))) (own := [("_law_pair", 12)]) (blk_by (by kernel_rfl)) (fun _ _ _ _ _ => (gg_name sc__law_model.nd rfl (by first | exact Or.inl rfl | exact Or.inr rfl))) (fun _ _ _ _ _ => (gts_one (gt_cmp (op_notInA (Room_un65 hr)) (os_in true) (gv 12) (gv 6) rfl))) (fun _ _ _ _ _ => (gd (gv 12)))) (gss_cons (gs_set (i := 8) sc__law_model.nd rfl (by first | exact Or.inl rfl | exact Or.inr rfl) (ge_cb (call_max2 rfl) cs_max2 rfl T.max_ (by decide +kernel) (ga_cons gi (ga_cons (ge_op op_sub os_sub (gv 2) (ge_cb cr_lenA cs_len rfl T.len_ (by decide +kernel) (ga_cons (gv 6) ga_nil))) ga_nil)))) (gss_cons (gs_set (i := 9) sc__law_model.nd rfl (by first | exact Or.inl rfl | exact Or.inr rfl) (ge_callD D__law_pick (hr.mono (by decide)) rfl (ga_cons (gv 0) (ga_cons (ge_lst (gl_cons (gd (ge_callD D__law_take (hr.mono (by decide)) rfl (ga_cons (gv 0) (ga_cons gi ga_nil)))) (gl_cons (gd (ge_callD D__law_take (hr.mono (by decide)) rfl (ga_cons (gv 0) (ga_cons (ge_op op_addA os_add (gv 8) gi) ga_nil)))) (gl_cons (gd (ge_op op_addA os_add gi (ge_callD D__law_take (hr.mono (by decide)) rfl (ga_cons (gv 0) (ga_cons gi ga_nil))))) gl_nil)))) ga_nil)))) (gss_cons (gs_set (i := 10) sc__law_model.nd rfl (by first | exact Or.inl rfl | exact Or.inr rfl) (ge_cb (call_min3Nu rfl) cs_min3 rfl T.min_ (by decide +kernel) (ga_cons (ge_cb cr_lenA cs_len rfl T.len_ (by decide +kernel) (ga_cons (gv 7) ga_nil)) (ga_cons (gv 8) (ga_cons (gv 9) ga_nil))))) (gss_cons (gs_set (i := 6) sc__law_model.nd rfl (by first | exact Or.inl rfl | exact Or.inr rfl) (ge_sl (ge_op op_addA os_add (gv 6) (ge_sl (gv 7) go_none (go_some (gv 10)))) go_none (go_some (gv 2)))) (gss_one (gs_ret (ge_disp (gps_cons (gd (ge_cb (cr_sortedD hr.units) cs_sorted rfl T.sorted_ (by decide +kernel) (ga_cons (gv 3) ga_nil))) (gps_cons (gd (ge_cb (cr_sortedD hr.units) cs_sorted rfl T.sorted_ (by decide +kernel) (ga_cons (ge_if (gt_cmp (op_neD hr.units) os_ne (gv 6) (ge_lst gl_nil) (nomark _)) (gv 6) (ge_sl (gv 7) go_none (go_some gi))) ga_nil))) gps_nil))))))))))))))⟩
/-! ### is_list -/
abbrev st_is_list : Stmt := top 9
def N_is_list : List Str := ["value"]
theorem sc_is_list : FnScope N_is_list ["value"] (defScope st_is_list) := ⟨rfl, rfl, rfl, by decide +kernel, rfl, by decide +kernel, by decide +kernel⟩
def m_is_list (K : PySem.W.Frag) (C : Addr) : GMS := (mRet (mIsi2 K "list" "tuple" (mVar 0)))
theorem d_is_list (T : Txt K mg C)  (hr : Room 1 (A.deeper (envOfC qual (defScope st_is_list) s.heap.objs.size f cdv))) : ∃ t, GSs (cxOf CX0 P w K mg base N_is_list qual (defScope st_is_list) f cdv A outer s H E).nox (defBody st_is_list) t (m_is_list K C) := by
  exact ⟨_, (gss_one (gs_ret (ge_isi2 rfl T.isinstance_ (gv 0) (pe_bty rfl T.list_ (by decide +kernel)) (pe_bty rfl T.tuple_ (by decide +kernel)))))⟩
/-! ### is_name -/
abbrev st_is_name : Stmt := top 10
def N_is_name : List Str := ["value", "sign"]
theorem sc_is_name : FnScope N_is_name ["value"] (defScope st_is_name) := ⟨rfl, rfl, rfl, by decide +kernel, rfl, by decide +kernel, by decide +kernel⟩
def m_is_name (K : PySem.W.Frag) (C : Addr) : GMS := (mRet (mAndV (mIsi K (.type "str") (mVar 0)) (mAndV (mChain fLe fLe (mC (.int 1)) (mCB fLen (mACons (mVar 0) mANil)) (mC (.int 6))) (mCB fAll (mACons (mLc (mWalkS (mVar 0)) (mgN 1) mYes (mDat (mOp (fInS false) (mVar 1) (mC (.str "abcdefghijklmnopqrstuvwxyz")))) (List.map (fun x => x.2) ([("sign", 1)] : List (Str × Nat)))) mANil)))))
theorem d_is_name (T : Txt K mg C)  (hr : Room 1 (A.deeper (envOfC qual (defScope st_is_name) s.heap.objs.size f cdv))) : ∃ t, GSs (cxOf CX0 P w K mg base N_is_name qual (defScope st_is_name) f cdv A outer s H E).nox (defBody st_is_name) t (m_is_name K C) := by
  obtain ⟨_, LETTERSh⟩ := T.LETTERS_; 
  exact ⟨_, (gss_one (gs_ret (ge_and (ge_isi (.ty "str") rfl T.isinstance_ (gv 0) (pe_bty rfl T.str_ (by decide +kernel))) (ge_and (ge_chain op_le op_le os_le os_le gi (ge_cb cr_lenA cs_len rfl T.len_ (by decide +kernel) (ga_cons (gv 0) ga_nil)) gi) (ge_one (ge_cb (cr_all rfl) cs_all rfl T.all_ (by decide +kernel) (ga_cons (ge_lc (tG := (gName 1)) (tt := tYes) (te := (tOp rInS (tVar 1) (tC (.str "abcdefghijklmnopqrstuvwxyz")))) rfl sc_is_name.nd (GI.c (gi_str (gv 0))) (own := [("sign", 1)]) (blk_by (by kernel_rfl)) (fun _ _ _ _ _ => (gg_name sc_is_name.nd rfl (by first | exact Or.inl rfl | exact Or.inr rfl))) (fun _ _ _ _ _ => gts_nil) (fun _ _ _ _ _ => (gd (ge_cmp op_inS os_inS (gv 1) (gglobS rfl LETTERSh) rfl)))) ga_nil)))))))⟩
/-! ### are_parties -/
abbrev st_are_parties : Stmt := top 12
def N_are_parties : List Str := ["value", "item"]
theorem sc_are_parties : FnScope N_are_parties ["value"] (defScope st_are_parties) := ⟨rfl, rfl, rfl, by decide +kernel, rfl, by decide +kernel, by decide +kernel⟩
def m_are_parties (K : PySem.W.Frag) (C : Addr) (S_is_list S_is_name : Spc) : GMS := (mSeq (mIf (mOr (mNot (mTst (mCall S_is_list (mACons (mVar 0) mANil)))) (mNot (mTst (mChain fLe fLe (mC (.int 2)) (mCB fLen (mACons (mVar 0) mANil)) (mC (.int 6)))))) (mRet (mC (.bl false))) mNext) (mRet (mAndV (mCB fAll (mACons (mLc (mWalk (mVar 0)) (mgN 1) mYes (mDat (mCall S_is_name (mACons (mVar 1) mANil))) (List.map (fun x => x.2) ([("item", 1)] : List (Str × Nat)))) mANil)) (mOp (fEq false) (mLenSet (mVar 0)) (mCB fLen (mACons (mVar 0) mANil))))))
theorem d_are_parties (T : Txt K mg C) {S_is_list S_is_name : Spc} (D_is_list : Df P w K mg base 2 "is_list" ["value"] S_is_list) (D_is_name : Df P w K mg base 2 "is_name" ["value"] S_is_name) (hr : Room 2 (A.deeper (envOfC qual (defScope st_are_parties) s.heap.objs.size f cdv))) : ∃ t, GSs (cxOf CX0 P w K mg base N_are_parties qual (defScope st_are_parties) f cdv A outer s H E).nox (defBody st_are_parties) t (m_are_parties K C S_is_list S_is_name) := by
  exact ⟨_, (gss_cons (gs_if (GW.gt (gw_or (gt_not (gt_val (ge_callD D_is_list (hr.mono (by decide)) rfl (ga_cons (gv 0) ga_nil)))) (gw_or1 (gt_not (gt_chain op_le op_le os_le os_le gi (ge_cb cr_lenA cs_len rfl T.len_ (by decide +kernel) (ga_cons (gv 0) ga_nil)) gi))))) (gss_one (gs_ret gb)) gss_nil) (gss_one (gs_ret (ge_and (ge_cb (cr_all rfl) cs_all rfl T.all_ (by decide +kernel) (ga_cons (ge_lc (tG := (gName 1)) (tt := tYes) (te := (tCall (GSp S_is_name) [] E0 (tCons (tVar 1) tNil))) rfl sc_are_parties.nd (gi_seqC (gv 0)) (own := [("item", 1)]) (blk_by (by kernel_rfl)) (fun _ _ _ _ _ => (gg_name sc_are_parties.nd rfl (by first | exact Or.inl rfl | exact Or.inr rfl))) (fun _ _ _ _ _ => gts_nil) (fun _ _ _ _ _ => (gd (ge_callD D_is_name (hr.mono (by decide)) (by rfl) (ga_cons (gv 1) ga_nil))))) ga_nil)) (ge_one (ge_cmp (op_eqD hr.units) os_eq (ge_lenSet rfl hr.units rfl T.len_ rfl T.set_ (gv 0)) (ge_cb cr_lenA cs_len rfl T.len_ (by decide +kernel) (ga_cons (gv 0) ga_nil)) (nomark _)))))))⟩
/-! ### is_handing -/
abbrev st_is_handing : Stmt := top 13
def N_is_handing : List Str := ["value", "parties", "giver", "taker"]
theorem sc_is_handing : FnScope N_is_handing ["value", "parties"] (defScope st_is_handing) := ⟨rfl, rfl, rfl, by decide +kernel, rfl, by decide +kernel, by decide +kernel⟩
def m_is_handing (K : PySem.W.Frag) (C : Addr) : GMS := (mSeq (mIf (mOr (mNot (mTst (mIsi K (.type "tuple") (mVar 0)))) (mTst (mOp (fEq true) (mCB fLen (mACons (mVar 0) mANil)) (mC (.int 2))))) (mRet (mC (.bl false))) mNext) (mSeq (mAsg (mDat (mVar 0)) (mgT 2 (mgCons (mgN 2) (mgCons (mgN 3) mgNil)))) (mRet (mAndV (mOp (fIn false) (mVar 2) (mVar 1)) (mAndV (mOp (fIn false) (mVar 3) (mVar 1)) (mOp (fEq true) (mVar 2) (mVar 3)))))))
theorem d_is_handing (T : Txt K mg C)  (hr : Room 1 (A.deeper (envOfC qual (defScope st_is_handing) s.heap.objs.size f cdv))) : ∃ t, GSs (cxOf CX0 P w K mg base N_is_handing qual (defScope st_is_handing) f cdv A outer s H E).nox (defBody st_is_handing) t (m_is_handing K C) := by
  exact ⟨_, (gss_cons (gs_if (GW.gt (gw_or (gt_not (gt_val (ge_isi (.ty "tuple") rfl T.isinstance_ (gv 0) (pe_bty rfl T.tuple_ (by decide +kernel))))) (gw_or1 (gt_cmp (op_neD hr.units) os_ne (ge_cb cr_lenA cs_len rfl T.len_ (by decide +kernel) (ga_cons (gv 0) ga_nil)) gi (nomark _))))) (gss_one (gs_ret gb)) gss_nil) (gss_cons (gs_asg (gd (gv 0)) (gg_tup rfl (ggs_cons (gg_name sc_is_handing.nd rfl (by first | exact Or.inl rfl | exact Or.inr rfl)) (ggs_cons (gg_name sc_is_handing.nd rfl (by first | exact Or.inl rfl | exact Or.inr rfl)) ggs_nil)))) (gss_one (gs_ret (ge_and (ge_cmp (op_inA (Room_un65 hr)) (os_in false) (gv 2) (gv 1) rfl) (ge_and (ge_cmp (op_inA (Room_un65 hr)) (os_in false) (gv 3) (gv 1) rfl) (ge_one (ge_cmp (op_neD hr.units) os_ne (gv 2) (gv 3) (nomark _)))))))))⟩
/-! ### are_handings -/
abbrev st_are_handings : Stmt := top 14
def N_are_handings : List Str := ["value", "parties", "item"]
theorem sc_are_handings : FnScope N_are_handings ["value", "parties"] (defScope st_are_handings) := ⟨rfl, rfl, rfl, by decide +kernel, rfl, by decide +kernel, by decide +kernel⟩
def m_are_handings (K : PySem.W.Frag) (C : Addr) (S_is_handing S_is_list : Spc) : GMS := (mSeq (mIf (mOr (mNot (mTst (mCall S_is_list (mACons (mVar 0) mANil)))) (mNot (mTst (mChain fLe fLe (mC (.int 1)) (mCB fLen (mACons (mVar 0) mANil)) (mC (.int 12)))))) (mRet (mC (.bl false))) mNext) (mRet (mAndV (mCB fAll (mACons (mLc (mWalk (mVar 0)) (mgN 2) mYes (mDat (mCall S_is_handing (mACons (mVar 2) (mACons (mVar 1) mANil)))) (List.map (fun x => x.2) ([("item", 2)] : List (Str × Nat)))) mANil)) (mOp (fEq false) (mLenSet (mVar 0)) (mCB fLen (mACons (mVar 0) mANil))))))
theorem d_are_handings (T : Txt K mg C) {S_is_handing S_is_list : Spc} (D_is_handing : Df P w K mg base 2 "is_handing" ["value", "parties"] S_is_handing) (D_is_list : Df P w K mg base 2 "is_list" ["value"] S_is_list) (hr : Room 2 (A.deeper (envOfC qual (defScope st_are_handings) s.heap.objs.size f cdv))) : ∃ t, GSs (cxOf CX0 P w K mg base N_are_handings qual (defScope st_are_handings) f cdv A outer s H E).nox (defBody st_are_handings) t (m_are_handings K C S_is_handing S_is_list) := by
  exact ⟨_, (gss_cons (gs_if (GW.gt (gw_or (gt_not (gt_val (ge_callD D_is_list (hr.mono (by decide)) rfl (ga_cons (gv 0) ga_nil)))) (gw_or1 (gt_not (gt_chain op_le op_le os_le os_le gi (ge_cb cr_lenA cs_len rfl T.len_ (by decide +kernel) (ga_cons (gv 0) ga_nil)) gi))))) (gss_one (gs_ret gb)) gss_nil) (gss_one (gs_ret (ge_and (ge_cb (cr_all rfl) cs_all rfl T.all_ (by decide +kernel) (ga_cons (ge_lc (tG := (gName 2)) (tt := tYes) (te := (tCall (GSp S_is_handing) [] E0 (tCons (tVar 2) (tCons (tVar 1) tNil)))) rfl sc_are_handings.nd (gi_seqC (gv 0)) (own := [("item", 2)]) (blk_by (by kernel_rfl)) (fun _ _ _ _ _ => (gg_name sc_are_handings.nd rfl (by first | exact Or.inl rfl | exact Or.inr rfl))) (fun _ _ _ _ _ => gts_nil) (fun _ _ _ _ _ => (gd (ge_callD D_is_handing (hr.mono (by decide)) (by rfl) (ga_cons (gv 2) (ga_cons (gv 1) ga_nil)))))) ga_nil)) (ge_one (ge_cmp (op_eqD hr.units) os_eq (ge_lenSet rfl hr.units rfl T.len_ rfl T.set_ (gv 0)) (ge_cb cr_lenA cs_len rfl T.len_ (by decide +kernel) (ga_cons (gv 0) ga_nil)) (nomark _)))))))⟩
/-! ### Web.__init__ -/
abbrev st_W___init__ : Stmt := inClass (top 15) 0
def N_W___init__ : List Str := ["self", "parties", "handings"]
theorem sc_W___init__ : FnScope N_W___init__ ["self", "parties", "handings"] (defScope st_W___init__) := ⟨rfl, rfl, rfl, by decide +kernel, rfl, by decide +kernel, by decide +kernel⟩
def m_W___init__ (K : PySem.W.Frag) (C : Addr) (S_are_handings S_are_parties : Spc) : GMS := (mSeq (mIf (mNot (mTst (mCall S_are_parties (mACons (mVar 1) mANil)))) mNever mNext) (mSeq (mIf (mNot (mTst (mCall S_are_handings (mACons (mVar 2) (mACons (mVar 1) mANil))))) mNever mNext) (mSeq (mFldS C 0 "_parties" (mDat (mCB fTup (mACons (mCB fSorted (mACons (mVar 1) mANil)) mANil)))) (mFldS C 0 "_handings" (mDat (mCB fTup (mACons (mCB fSorted (mACons (mVar 2) mANil)) mANil)))))))
theorem d_W___init__ (T : Txt K mg C) {S_are_handings S_are_parties : Spc} (D_are_handings : Df P w K mg base 3 "are_handings" ["value", "parties"] S_are_handings) (D_are_parties : Df P w K mg base 3 "are_parties" ["value"] S_are_parties) (hr : Room 3 (A.deeper (envOfC qual (defScope st_W___init__) s.heap.objs.size f cdv))) : ∃ t, GSs (cxOf CX0 P w K mg base N_W___init__ qual (defScope st_W___init__) f cdv A outer s H E).nox (defBody st_W___init__) t (m_W___init__ K C S_are_handings S_are_parties) := by
  exact ⟨_, (gss_cons (gs_if (gt_not (gt_val (ge_callD D_are_parties (hr.mono (by decide)) rfl (ga_cons (gv 1) ga_nil)))) (gss_one gs_never) gss_nil) (gss_cons (gs_if (gt_not (gt_val (ge_callD D_are_handings (hr.mono (by decide)) rfl (ga_cons (gv 2) (ga_cons (gv 1) ga_nil))))) (gss_one gs_never) gss_nil) (gss_cons (gs_fld (gv 0).pe (gd (ge_ct call_tuple_of cs_tup rfl T.tuple_ (by decide +kernel) (ga_cons (ge_cb (cr_sortedD hr.units) cs_sorted rfl T.sorted_ (by decide +kernel) (ga_cons (gv 1) ga_nil)) ga_nil))) T.cl T._parties_n) (gss_one (gs_fld (gv 0).pe (gd (ge_ct call_tuple_of cs_tup rfl T.tuple_ (by decide +kernel) (ga_cons (ge_cb (cr_sortedD hr.units) cs_sorted rfl T.sorted_ (by decide +kernel) (ga_cons (gv 2) ga_nil)) ga_nil))) T.cl T._handings_n)))))⟩
/-! ### _law_web -/
abbrev st__law_web : Stmt := top 33
def N__law_web : List Str := ["_law_model_here"]
theorem sc__law_web : FnScope N__law_web ["_law_model_here"] (defScope st__law_web) := ⟨rfl, rfl, rfl, by decide +kernel, rfl, by decide +kernel, by decide +kernel⟩
def m__law_web (K : PySem.W.Frag) (C : Addr) (S_Web : Spc) : GMS := (mRet (mCall S_Web (mACons (mRev (mCB fList (mACons (mDGet "dots" (mDat (mVar 0))) mANil))) (mACons (mRev (mCB fList (mACons (mDGet "ties" (mDat (mVar 0))) mANil))) mANil))))
theorem d__law_web (T : Txt K mg C) {S_Web : Spc} (C_Web : DfC P w K mg base 4 "Web" C ["self", "parties", "handings"] S_Web) (hr : Room 5 (A.deeper (envOfC qual (defScope st__law_web) s.heap.objs.size f cdv))) : ∃ t, GSs (cxOf CX0 P w K mg base N__law_web qual (defScope st__law_web) f cdv A outer s H E).nox (defBody st__law_web) t (m__law_web K C S_Web) := by
  exact ⟨_, (gss_one (gs_ret (ge_makeD C_Web (hr.mono (by decide)) rfl (ga_cons (ge_rev (ge_ct call_list_of cs_list rfl T.list_ (by decide +kernel) (ga_cons (ge_dget (hu_of hr) (gd (gv 0))) ga_nil))) (ga_cons (ge_rev (ge_ct call_list_of cs_list rfl T.list_ (by decide +kernel) (ga_cons (ge_dget (hu_of hr) (gd (gv 0))) ga_nil))) ga_nil)))))⟩
/-! ### _law_before -/
abbrev st__law_before : Stmt := top 35
def N__law_before : List Str := ["_law_model_here", "_law_dot", "_law_giver", "_law_taker"]
theorem sc__law_before : FnScope N__law_before ["_law_model_here", "_law_dot"] (defScope st__law_before) := ⟨rfl, rfl, rfl, by decide +kernel, rfl, by decide +kernel, by decide +kernel⟩
def m__law_before (K : PySem.W.Frag) (C : Addr) : GMS := (mRet (mLc (mWalk (mDGet "ties" (mDat (mVar 0)))) (mgT 2 (mgCons (mgN 2) (mgCons (mgN 3) mgNil))) (mTst (mOp (fEq false) (mVar 3) (mVar 1))) (mDat (mVar 2)) (List.map (fun x => x.2) ([("_law_giver", 2), ("_law_taker", 3)] : List (Str × Nat)))))
theorem d__law_before (T : Txt K mg C)  (hr : Room 1 (A.deeper (envOfC qual (defScope st__law_before) s.heap.objs.size f cdv))) : ∃ t, GSs (cxOf CX0 P w K mg base N__law_before qual (defScope st__law_before) f cdv A outer s H E).nox (defBody st__law_before) t (m__law_before K C) := by
  exact ⟨_, (gss_one (gs_ret (ge_lc (tG := (gTup K 2 (gCons (gName 2) (gCons (gName 3) gNil)))) (tt := (tTest (tOp (rEqD K) (tVar 3) (tVar 1)))) (te := (tVar 2)) rfl sc__law_before.nd (gi_seqC (ge_dget (hu_of hr) (gd (gv 0)))) (own := [("_law_giver", 2), ("_law_taker", 3)]) (blk_by (by kernel_rfl)) (fun _ _ _ _ _ => (gg_tup rfl (ggs_cons (gg_name sc__law_before.nd rfl (by first | exact Or.inl rfl | exact Or.inr rfl)) (ggs_cons (gg_name sc__law_before.nd rfl (by first | exact Or.inl rfl | exact Or.inr rfl)) ggs_nil)))) (fun _ _ _ _ _ => (gts_one (gt_cmp (op_eqD hr.units) os_eq (gv 3) (gv 1) (nomark _)))) (fun _ _ _ _ _ => (gd (gv 2))))))⟩
/-! ### _law_next -/
abbrev st__law_next : Stmt := top 34
def N__law_next : List Str := ["_law_model_here", "_law_dot", "_law_giver", "_law_taker"]
theorem sc__law_next : FnScope N__law_next ["_law_model_here", "_law_dot"] (defScope st__law_next) := ⟨rfl, rfl, rfl, by decide +kernel, rfl, by decide +kernel, by decide +kernel⟩
def m__law_next (K : PySem.W.Frag) (C : Addr) : GMS := (mRet (mLc (mWalk (mDGet "ties" (mDat (mVar 0)))) (mgT 2 (mgCons (mgN 2) (mgCons (mgN 3) mgNil))) (mTst (mOp (fEq false) (mVar 2) (mVar 1))) (mDat (mVar 3)) (List.map (fun x => x.2) ([("_law_giver", 2), ("_law_taker", 3)] : List (Str × Nat)))))
theorem d__law_next (T : Txt K mg C)  (hr : Room 1 (A.deeper (envOfC qual (defScope st__law_next) s.heap.objs.size f cdv))) : ∃ t, GSs (cxOf CX0 P w K mg base N__law_next qual (defScope st__law_next) f cdv A outer s H E).nox (defBody st__law_next) t (m__law_next K C) := by
  exact ⟨_, (gss_one (gs_ret (ge_lc (tG := (gTup K 2 (gCons (gName 2) (gCons (gName 3) gNil)))) (tt := (tTest (tOp (rEqD K) (tVar 2) (tVar 1)))) (te := (tVar 3)) rfl sc__law_next.nd (gi_seqC (ge_dget (hu_of hr) (gd (gv 0)))) (own := [("_law_giver", 2), ("_law_taker", 3)]) (blk_by (by kernel_rfl)) (fun _ _ _ _ _ => (gg_tup rfl (ggs_cons (gg_name sc__law_next.nd rfl (by first | exact Or.inl rfl | exact Or.inr rfl)) (ggs_cons (gg_name sc__law_next.nd rfl (by first | exact Or.inl rfl | exact Or.inr rfl)) ggs_nil)))) (fun _ _ _ _ _ => (gts_one (gt_cmp (op_eqD hr.units) os_eq (gv 2) (gv 1) (nomark _)))) (fun _ _ _ _ _ => (gd (gv 3))))))⟩
/-! ### _law_shorter -/
abbrev st__law_shorter : Stmt := top 36
def N__law_shorter : List Str := ["_law_some", "_law_size", "_law_one"]
theorem sc__law_shorter : FnScope N__law_shorter ["_law_some"] (defScope st__law_shorter) := ⟨rfl, rfl, rfl, by decide +kernel, rfl, by decide +kernel, by decide +kernel⟩
def m__law_shorter (K : PySem.W.Frag) (C : Addr) : GMS := (mRet (mLc (mWalk (mCB fSorted (mACons (mLc (mWalk (mVar 0)) (mgN 2) mYes (mDat (mTup (mLCons (mDat (mCB fLen (mACons (mVar 2) mANil))) (mLCons (mDat (mVar 2)) mLNil)))) (List.map (fun x => x.2) ([("_law_one", 2)] : List (Str × Nat)))) mANil))) (mgT 2 (mgCons (mgN 1) (mgCons (mgN 2) mgNil))) mYes (mDat (mVar 2)) (List.map (fun x => x.2) ([("_law_size", 1), ("_law_one", 2)] : List (Str × Nat)))))
theorem d__law_shorter (T : Txt K mg C)  (hr : Room 1 (A.deeper (envOfC qual (defScope st__law_shorter) s.heap.objs.size f cdv))) : ∃ t, GSs (cxOf CX0 P w K mg base N__law_shorter qual (defScope st__law_shorter) f cdv A outer s H E).nox (defBody st__law_shorter) t (m__law_shorter K C) := by
  exact ⟨_, (gss_one (gs_ret (ge_lc (tG := (gTup K 2 (gCons (gName 1) (gCons (gName 2) gNil)))) (tt := tYes) (te := (tVar 2)) rfl sc__law_shorter.nd (gi_seqC (ge_cb (cr_sortedD hr.units) cs_sorted rfl T.sorted_ (by decide +kernel) (ga_cons (ge_lc (tG := (gName 2)) (tt := tYes) (te := (tTup (tCons (tCB (rLenA K) (tCons (tVar 2) tNil)) (tCons (tVar 2) tNil)))) rfl sc__law_shorter.nd (gi_seqC (gv 0)) (own := [("_law_one", 2)]) (blk_by (by kernel_rfl)) (fun _ _ _ _ _ => (gg_name sc__law_shorter.nd rfl (by first | exact Or.inl rfl | exact Or.inr rfl))) (fun _ _ _ _ _ => gts_nil) (fun _ _ _ _ _ => (gd (ge_tup (gl_cons (gd (ge_cb cr_lenA cs_len rfl T.len_ (by decide +kernel) (ga_cons (gv 2) ga_nil))) (gl_cons (gd (gv 2)) gl_nil)))))) ga_nil))) (own := [("_law_size", 1), ("_law_one", 2)]) (blk_by (by kernel_rfl)) (fun _ _ _ _ _ => (gg_tup rfl (ggs_cons (gg_name sc__law_shorter.nd rfl (by first | exact Or.inl rfl | exact Or.inr rfl)) (ggs_cons (gg_name sc__law_shorter.nd rfl (by first | exact Or.inl rfl | exact Or.inr rfl)) ggs_nil)))) (fun _ _ _ _ _ => gts_nil) (fun _ _ _ _ _ => (gd (gv 2))))))⟩
/-! ### _law_ways -/
abbrev st__law_ways : Stmt := top 37
def N__law_ways : List Str := ["_law_model_here", "_law_start", "_law_goal", "_law_found", "_law_line", "_law_longer", "_law_way", "_law_dot"]
theorem sc__law_ways : FnScope N__law_ways ["_law_model_here", "_law_start", "_law_goal"] (defScope st__law_ways) := ⟨rfl, rfl, rfl, by decide +kernel, rfl, by decide +kernel, by decide +kernel⟩
def m__law_ways (K : PySem.W.Frag) (C : Addr) (S__law_next S__law_shorter : Spc) : GMS := (mSeq (mPar2 3 4 true false (mLst mLNil) (mLst (mLCons (mDat (mTup (mLCons (mDat (mVar 1)) mLNil))) mLNil))) (mSeq (mWh (mTst (mOp (fEq true) (mVar 4) (mLst mLNil))) (mSeq (mSet 5 (mLst mLNil)) (mSeq (mFor (mWalkD (mDat (mVar 4))) (mgN 6) (mIf (mTst (mOp (fEq false) (mOp fIx (mVar 6) (mC (.int (-1)))) (mVar 2))) (mApp 3 (mDat (mVar 6))) (mSet 5 (mOp fAdd (mVar 5) (mLc (mWalk (mCall S__law_next (mACons (mVar 0) (mACons (mOp fIx (mVar 6) (mC (.int (-1)))) mANil)))) (mgN 7) (mTst (mOp (fIn true) (mVar 7) (mVar 6))) (mDat (mOp fAdd (mVar 6) (mTup (mLCons (mDat (mVar 7)) mLNil)))) (List.map (fun x => x.2) ([("_law_dot", 7)] : List (Str × Nat)))))))) (mSet 4 (mCB fList (mACons (mVar 5) mANil)))))) (mRet (mCall S__law_shorter (mACons (mVar 3) mANil)))))
theorem d__law_ways (T : Txt K mg C) {S__law_next S__law_shorter : Spc} (D__law_next : Df P w K mg base 2 "_law_next" ["_law_model_here", "_law_dot"] S__law_next) (D__law_shorter : Df P w K mg base 2 "_law_shorter" ["_law_some"] S__law_shorter) (hr : Room 2 (A.deeper (envOfC qual (defScope st__law_ways) s.heap.objs.size f cdv))) : ∃ t, GSs (cxOf CX0 P w K mg base N__law_ways qual (defScope st__law_ways) f cdv A outer s H E).nox (defBody st__law_ways) t (m__law_ways K C S__law_next S__law_shorter) := by
  exact ⟨_, (gss_cons (gs_par2 true false (i := 3) (j := 4) rfl sc__law_ways.nd rfl rfl (by decide) rfl rfl (ge_lst gl_nil) (ge_lst (gl_cons (gd (ge_tup (gl_cons (gd (gv 1)) gl_nil))) gl_nil)) rfl) (gss_cons (gs_while PassesOwn.never (gt_cmp (op_neD hr.units) os_ne (gv 4) (ge_lst gl_nil) (nomark _)) (gss_cons (gs_set (i := 5) sc__law_ways.nd rfl (by first | exact Or.inl rfl | exact Or.inr rfl) (ge_lst gl_nil)) (gss_cons (gs_for PassesOwn.never rfl (gi_seq (gd (gv 4))) (gg_name sc__law_ways.nd rfl (by first | exact Or.inl rfl | exact Or.inr rfl)) (gss_one (gs_if (gt_cmp (op_eqD hr.units) os_eq (ge_ixG (gv 6) ge_neg1) (gv 2) (nomark _)) (gss_one (gs_app (i := 3) (gd (gv 6)) fun h => pe_appendG (gv 3).pe h)) (gss_one (gs_set (i := 5) sc__law_ways.nd rfl (by first | exact Or.inl rfl | exact Or.inr rfl) (ge_op op_addA os_add (gv 5) (ge_lc (tG := (gName 7)) (tt := (tTest (tOp (rInA K true) (tVar 7) (tVar 6)))) (te := (tOp (rAddA K) (tVar 6) (tTup (tCons (tVar 7) tNil)))) rfl sc__law_ways.nd (gi_seqC (ge_callD D__law_next (hr.mono (by decide)) (by rfl) (ga_cons (gv 0) (ga_cons (ge_ixG (gv 6) ge_neg1) ga_nil)))) (own := [("_law_dot", 7)]) (blk_by (by kernel_rfl)) (fun _ _ _ _ _ => (gg_name sc__law_ways.nd rfl (by first | exact Or.inl rfl | exact Or.inr rfl))) (fun _ _ _ _ _ => (gts_one (gt_cmp (op_notInA (Room_un65 hr)) (os_in true) (gv 7) (gv 6) rfl))) (fun _ _ _ _ _ => (gd (ge_op op_addA os_add (gv 6) (ge_tup (gl_cons (gd (gv 7)) gl_nil)))))))))))) (gss_one (gs_set (i := 4) sc__law_ways.nd rfl (by first | exact Or.inl rfl | exact Or.inr rfl) (ge_ct call_list_of cs_list rfl T.list_ (by decide +kernel) (ga_cons (gv 5) ga_nil))))))) (gss_one (gs_ret (ge_callD D__law_shorter (hr.mono (by decide)) rfl (ga_cons (gv 3) ga_nil))))))⟩
/-! ### _law_rings -/
abbrev st__law_rings : Stmt := top 38
def N__law_rings : List Str := ["_law_model_here", "_law_found", "_law_dot", "_law_other", "_law_way"]
theorem sc__law_rings : FnScope N__law_rings ["_law_model_here"] (defScope st__law_rings) := ⟨rfl, rfl, rfl, by decide +kernel, rfl, by decide +kernel, by decide +kernel⟩
def m__law_rings (K : PySem.W.Frag) (C : Addr) (S__law_before S__law_shorter S__law_ways : Spc) : GMS := (mSeq (mSet 1 (mLst mLNil)) (mSeq (mFor (mWalkD (mDat (mDGet "dots" (mDat (mVar 0))))) (mgN 2) (mFor (mWalkD (mDat (mCall S__law_before (mACons (mVar 0) (mACons (mVar 2) mANil))))) (mgN 3) (mSet 1 (mOp fAdd (mVar 1) (mLc (mWalk (mCall S__law_ways (mACons (mVar 0) (mACons (mVar 2) (mACons (mVar 3) mANil))))) (mgN 4) (mTst (mOp (fEq false) (mCB fMinA (mACons (mVar 4) mANil)) (mVar 2))) (mDat (mVar 4)) (List.map (fun x => x.2) ([("_law_way", 4)] : List (Str × Nat)))))))) (mRet (mCall S__law_shorter (mACons (mVar 1) mANil)))))
theorem d__law_rings (T : Txt K mg C) {S__law_before S__law_shorter S__law_ways : Spc} (D__law_before : Df P w K mg base 2 "_law_before" ["_law_model_here", "_law_dot"] S__law_before) (D__law_shorter : Df P w K mg base 2 "_law_shorter" ["_law_some"] S__law_shorter) (D__law_ways : Df P w K mg base 3 "_law_ways" ["_law_model_here", "_law_start", "_law_goal"] S__law_ways) (hr : Room 3 (A.deeper (envOfC qual (defScope st__law_rings) s.heap.objs.size f cdv))) : ∃ t, GSs (cxOf CX0 P w K mg base N__law_rings qual (defScope st__law_rings) f cdv A outer s H E).nox (defBody st__law_rings) t (m__law_rings K C S__law_before S__law_shorter S__law_ways) := by
  exact ⟨_, (gss_cons (gs_set (i := 1) sc__law_rings.nd rfl (by first | exact Or.inl rfl | exact Or.inr rfl) (ge_lst gl_nil)) (gss_cons (gs_for PassesOwn.never rfl (gi_seq (gd (ge_dget (hu_of hr) (gd (gv 0))))) (gg_name sc__law_rings.nd rfl (by first | exact Or.inl rfl | exact Or.inr rfl)) (gss_one (gs_for PassesOwn.never rfl (gi_seq (gd (ge_callD D__law_before (hr.mono (by decide)) rfl (ga_cons (gv 0) (ga_cons (gv 2) ga_nil))))) (gg_name sc__law_rings.nd rfl (by first | exact Or.inl rfl | exact Or.inr rfl)) (gss_one (gs_set (i := 1) sc__law_rings.nd rfl (by first | exact Or.inl rfl | exact Or.inr rfl) (ge_op op_addA os_add (gv 1) (ge_lc (tG := (gName 4)) (tt := (tTest (tOp (rEqD K) (tCB (rMinA K) (tCons (tVar 4) tNil)) (tVar 2)))) (te := (tVar 4)) rfl sc__law_rings.nd (gi_seqC (ge_callD D__law_ways (hr.mono (by decide)) (by rfl) (ga_cons (gv 0) (ga_cons (gv 2) (ga_cons (gv 3) ga_nil))))) (own := [("_law_way", 4)]) (blk_by (by kernel_rfl)) (fun _ _ _ _ _ => (gg_name sc__law_rings.nd rfl (by first | exact Or.inl rfl | exact Or.inr rfl))) (fun _ _ _ _ _ => (gts_one (gt_cmp (op_eqD hr.units) os_eq (ge_cb (cr_minA rfl hr.units) cs_minA rfl T.min_ (by decide +kernel) (ga_cons (gv 4) ga_nil)) (gv 2) (nomark _)))) (fun _ _ _ _ _ => (gd (gv 4)))))))))) (gss_one (gs_ret (ge_callD D__law_shorter (hr.mono (by decide)) rfl (ga_cons (gv 1) ga_nil))))))⟩
/-! ### check_web -/
abbrev st_check_web : Stmt := top 16
def N_check_web : List Str := ["web"]
theorem sc_check_web : FnScope N_check_web ["web"] (defScope st_check_web) := ⟨rfl, rfl, rfl, by decide +kernel, rfl, by decide +kernel, by decide +kernel⟩
def m_check_web (K : PySem.W.Frag) (C : Addr) : GMS := (mIf (mNot (mTst (mIsi K (.ref C) (mVar 0)))) mNever mNext)
theorem d_check_web (T : Txt K mg C)  (hr : Room 1 (A.deeper (envOfC qual (defScope st_check_web) s.heap.objs.size f cdv))) : ∃ t, GSs (cxOf CX0 P w K mg base N_check_web qual (defScope st_check_web) f cdv A outer s H E).nox (defBody st_check_web) t (m_check_web K C) := by
  exact ⟨_, (gss_one (gs_if (gt_not (gt_val (ge_isi (.own C) rfl T.isinstance_ (gv 0) (pe_glob rfl T.C_Web rfl)))) (gss_one gs_never) gss_nil))⟩
/-! ### Web.parties -/
abbrev st_W_parties : Stmt := inClass (top 15) 1
def N_W_parties : List Str := ["self"]
theorem sc_W_parties : FnScope N_W_parties ["self"] (defScope st_W_parties) := ⟨rfl, rfl, rfl, by decide +kernel, rfl, by decide +kernel, by decide +kernel⟩
def m_W_parties (K : PySem.W.Frag) (C : Addr) : GMS := (mRet (mFld C "_parties" (mDat (mVar 0))))
theorem d_W_parties (T : Txt K mg C)  (hr : Room 1 (A.deeper (envOfC qual (defScope st_W_parties) s.heap.objs.size f cdv))) : ∃ t, GSs (cxOf CX0 P w K mg base N_W_parties qual (defScope st_W_parties) f cdv A outer s H E).nox (defBody st_W_parties) t (m_W_parties K C) := by
  exact ⟨_, (gss_one (gs_ret (ge_fld (gd (gv 0)) T.cl T._parties_n rfl)))⟩
/-! ### check_party -/
abbrev st_check_party : Stmt := top 17
def N_check_party : List Str := ["web", "party"]
theorem sc_check_party : FnScope N_check_party ["web", "party"] (defScope st_check_party) := ⟨rfl, rfl, rfl, by decide +kernel, rfl, by decide +kernel, by decide +kernel⟩
def m_check_party (K : PySem.W.Frag) (C : Addr) (S_parties : Spc) : GMS := (mIf (mTst (mOp (fIn true) (mVar 1) (mProp C S_parties (mDat (mVar 0))))) mNever mNext)
theorem d_check_party (T : Txt K mg C) {S_parties : Spc} (P_parties : DfP P w K mg base 2 C "parties" S_parties) (hr : Room 3 (A.deeper (envOfC qual (defScope st_check_party) s.heap.objs.size f cdv))) : ∃ t, GSs (cxOf CX0 P w K mg base N_check_party qual (defScope st_check_party) f cdv A outer s H E).nox (defBody st_check_party) t (m_check_party K C S_parties) := by
  exact ⟨_, (gss_one (gs_if (gt_cmp (op_notInA (Room_un65 hr)) (os_in true) (gv 1) (ge_propD P_parties (hr.mono (by decide)) (gd (gv 0))) rfl) (gss_one gs_never) gss_nil))⟩
/-! ### Web.outs -/
abbrev st_W_outs : Stmt := inClass (top 15) 5
def N_W_outs : List Str := ["self", "party", "handing"]
theorem sc_W_outs : FnScope N_W_outs ["self", "party"] (defScope st_W_outs) := ⟨rfl, rfl, rfl, by decide +kernel, rfl, by decide +kernel, by decide +kernel⟩
def m_W_outs (K : PySem.W.Frag) (C : Addr) (S_check_party : Spc) : GMS := (mSeq (mDrop (mCall S_check_party (mACons (mVar 0) (mACons (mVar 1) mANil)))) (mRet (mCB fTup (mACons (mLc (mWalk (mFld C "_handings" (mDat (mVar 0)))) (mgN 2) (mTst (mOp (fEq false) (mOp fIx (mVar 2) (mC (.int 0))) (mVar 1))) (mDat (mVar 2)) (List.map (fun x => x.2) ([("handing", 2)] : List (Str × Nat)))) mANil))))
theorem d_W_outs (T : Txt K mg C) {S_check_party : Spc} (D_check_party : Df P w K mg base 4 "check_party" ["web", "party"] S_check_party) (hr : Room 4 (A.deeper (envOfC qual (defScope st_W_outs) s.heap.objs.size f cdv))) : ∃ t, GSs (cxOf CX0 P w K mg base N_W_outs qual (defScope st_W_outs) f cdv A outer s H E).nox (defBody st_W_outs) t (m_W_outs K C S_check_party) := by
  exact ⟨_, (gss_cons (gs_expr (ge_callD D_check_party (hr.mono (by decide)) rfl (ga_cons (gv 0) (ga_cons (gv 1) ga_nil)))) (gss_one (gs_ret (ge_ct call_tuple_of cs_tup rfl T.tuple_ (by decide +kernel) (ga_cons (ge_lc (tG := (gName 2)) (tt := (tTest (tOp (rEqD K) (tOp (rIxA K) (tVar 2) (tC (.int 0))) (tVar 1)))) (te := (tVar 2)) rfl sc_W_outs.nd (gi_seqC (ge_fld (gd (gv 0)) T.cl T._handings_n rfl)) (own := [("handing", 2)]) (blk_by (by kernel_rfl)) (fun _ _ _ _ _ => (gg_name sc_W_outs.nd rfl (by first | exact Or.inl rfl | exact Or.inr rfl))) (fun _ _ _ _ _ => (gts_one (gt_cmp (op_eqD hr.units) os_eq (ge_ixG (gv 2) gi) (gv 1) (nomark _)))) (fun _ _ _ _ _ => (gd (gv 2)))) ga_nil)))))⟩
/-! ### ways_from -/
abbrev st_ways_from : Stmt := top 19
def N_ways_from : List Str := ["web", "start", "found", "longest", "way", "_", "taker"]
theorem sc_ways_from : FnScope N_ways_from ["web", "start"] (defScope st_ways_from) := ⟨rfl, rfl, rfl, by decide +kernel, rfl, by decide +kernel, by decide +kernel⟩
def m_ways_from (K : PySem.W.Frag) (C : Addr) (S_outs : Spc) : GMS := (mSeq (mSetO 2 (mLst mLNil)) (mSeq (mSet 3 (mLst (mLCons (mDat (mTup (mLCons (mDat (mVar 1)) mLNil))) mLNil))) (mSeq (mWh (mTru (mVar 3)) (mSeq (mExt 2 (mVar 3)) (mSet 3 (mLc2 (mWalk (mVar 3)) (mgN 4) mYes (mWalkD (mDat (mMeth C "outs" S_outs (mDat (mVar 0)) (mACons (mOp fIx (mVar 4) (mC (.int (-1)))) mANil)))) (mgT 2 (mgCons (mgN 5) (mgCons (mgN 6) mgNil))) (mTst (mOp (fIn true) (mVar 6) (mVar 4))) (mDat (mOp fAdd (mVar 4) (mTup (mLCons (mDat (mVar 6)) mLNil)))) (List.map (fun x => x.2) ([("way", 4), ("_", 5), ("taker", 6)] : List (Str × Nat))) [5, 6])))) (mRetO 2))))
theorem d_ways_from (T : Txt K mg C) {S_outs : Spc} (M_outs : DfM P w K mg base 5 C "outs" ["self", "party"] S_outs) (hr : Room 5 (A.deeper (envOfC qual (defScope st_ways_from) s.heap.objs.size f cdv))) : ∃ t, GSs (cxOf CX0 P w K mg base N_ways_from qual (defScope st_ways_from) f cdv A outer s H E).nox (defBody st_ways_from) t (m_ways_from K C S_outs) := by
  exact ⟨_, (gss_cons (gs_setO (i := 2) sc_ways_from.nd rfl (by first | exact Or.inl rfl | exact Or.inr rfl) (ge_lst gl_nil)) (gss_cons (gs_set (i := 3) sc_ways_from.nd rfl (by first | exact Or.inl rfl | exact Or.inr rfl) (ge_lst (gl_cons (gd (ge_tup (gl_cons (gd (gv 1)) gl_nil))) gl_nil))) (gss_cons (gs_while PassesOwn.never (gt_tru (gv 3)) (gss_cons (gs_ext (i := 2) (gv 3) fun h => pe_extendG (gv 2).pe h) (gss_one (gs_setLc2 (tG := (gName 4)) (tt := tYes) (te := (tOp (rAddA K) (tVar 4) (tTup (tCons (tVar 6) tNil)))) (wi1 := (iSeq K (tMeth C "outs" (GSp S_outs) [] E0 (tVar 0) (tCons (tOp (rIxA K) (tVar 4) (tUn (rU fun i => .int (-i)) (tC (.int 1)))) tNil)))) (tG1 := (gTup K 2 (gCons (gName 5) (gCons (gName 6) gNil)))) (tt1 := (tTest (tOp (rInA K true) (tVar 6) (tVar 4)))) rfl sc_ways_from.nd (i := 3) rfl rfl rfl (gi_seqC (gv 3)) (own := [("way", 4), ("_", 5), ("taker", 6)]) (vs1 := [5, 6]) (blk_by (by kernel_rfl)) (by decide) (fun _ _ _ _ _ => (gg_name sc_ways_from.nd rfl (by first | exact Or.inl rfl | exact Or.inr rfl))) (fun _ _ _ _ _ => gts_nil) (fun _ _ _ _ _ => (gi_seq (gd (ge_methD M_outs (hr.mono (by decide)) (gd (gv 0)) (ga_cons (ge_ixG (gv 4) ge_neg1) ga_nil))))) (fun _ _ _ _ _ => (gg_tup rfl (ggs_cons (gg_name sc_ways_from.nd rfl (by first | exact Or.inl rfl | exact Or.inr rfl)) (ggs_cons (gg_name sc_ways_from.nd rfl (by first | exact Or.inl rfl | exact Or.inr rfl)) ggs_nil)))) (fun _ _ _ _ _ => (gts_one (gt_cmp (op_notInA (Room_un65 hr)) (os_in true) (gv 6) (gv 4) rfl))) (fun _ _ _ _ _ => (gd (ge_op op_addA os_add (gv 4) (ge_tup (gl_cons (gd (gv 6)) gl_nil))))))))) (gss_one (gs_retO (i := 2) (gv 2).pe)))))⟩
/-! ### Web.handings -/
abbrev st_W_handings : Stmt := inClass (top 15) 2
def N_W_handings : List Str := ["self"]
theorem sc_W_handings : FnScope N_W_handings ["self"] (defScope st_W_handings) := ⟨rfl, rfl, rfl, by decide +kernel, rfl, by decide +kernel, by decide +kernel⟩
def m_W_handings (K : PySem.W.Frag) (C : Addr) : GMS := (mRet (mFld C "_handings" (mDat (mVar 0))))
theorem d_W_handings (T : Txt K mg C)  (hr : Room 1 (A.deeper (envOfC qual (defScope st_W_handings) s.heap.objs.size f cdv))) : ∃ t, GSs (cxOf CX0 P w K mg base N_W_handings qual (defScope st_W_handings) f cdv A outer s H E).nox (defBody st_W_handings) t (m_W_handings K C) := by
  exact ⟨_, (gss_one (gs_ret (ge_fld (gd (gv 0)) T.cl T._handings_n rfl)))⟩
/-! ### shorter_first -/
abbrev st_shorter_first : Stmt := top 18
def N_shorter_first : List Str := ["rows"]
theorem sc_shorter_first : FnScope N_shorter_first ["rows"] (defScope st_shorter_first) := ⟨rfl, rfl, rfl, by decide +kernel, rfl, by decide +kernel, by decide +kernel⟩
def m_shorter_first (K : PySem.W.Frag) (C : Addr) : GMS := (mRet (mSortLR (mVar 0)))
theorem d_shorter_first {c Pt : Addr} {qt : Str} (hts : (Pt, qt) ∈ TabCx.ts) (hus : ∀ t ∈ TabCx.ts, t.1 = Pt → t.2 = qt) (T : Txt K mg C)  (T1 : Tab1 (cxOf CX0 P w K mg base N_shorter_first qual (defScope st_shorter_first) f cdv A outer s H E).nox c Pt qt) (hr : Room 1 (A.deeper (envOfC qual (defScope st_shorter_first) s.heap.objs.size f cdv))) : ∃ t, GSs (cxOf CX0 P w K mg base N_shorter_first qual (defScope st_shorter_first) f cdv A outer s H E).nox (defBody st_shorter_first) t (m_shorter_first K C) := by
  exact ⟨_, (gss_one (gs_ret (ge_sortLR hts hus T1 hr.units hr.depth rfl T.sorted_ T.len_ (gv 0))))⟩
/-! ### rings -/
abbrev st_rings : Stmt := top 20
def N_rings : List Str := ["web", "found", "party", "way"]
theorem sc_rings : FnScope N_rings ["web"] (defScope st_rings) := ⟨rfl, rfl, rfl, by decide +kernel, rfl, by decide +kernel, by decide +kernel⟩
def m_rings (K : PySem.W.Frag) (C : Addr) (S_check_web S_shorter_first S_ways_from S_handings S_parties : Spc) : GMS := (mSeq (mDrop (mCall S_check_web (mACons (mVar 0) mANil))) (mSeq (mSetO 1 (mLst mLNil)) (mSeq (mFor (mWalkD (mDat (mProp C S_parties (mDat (mVar 0))))) (mgN 2) (mFor (mWalkD (mDat (mCall S_ways_from (mACons (mVar 0) (mACons (mVar 2) mANil))))) (mgN 3) (mIf (mAnd (mTst (mOp (fEq false) (mCB fMinA (mACons (mVar 3) mANil)) (mVar 2))) (mTst (mOp (fIn false) (mTup (mLCons (mDat (mOp fIx (mVar 3) (mC (.int (-1))))) (mLCons (mDat (mVar 2)) mLNil))) (mProp C S_handings (mDat (mVar 0)))))) (mApp 1 (mDat (mVar 3))) mNext))) (mRet (mCall S_shorter_first (mACons (mVar 1) mANil))))))
theorem d_rings (T : Txt K mg C) {S_check_web S_shorter_first S_ways_from S_handings S_parties : Spc} (D_check_web : Df P w K mg base 2 "check_web" ["web"] S_check_web) (D_shorter_first : Df P w K mg base 2 "shorter_first" ["rows"] S_shorter_first) (D_ways_from : Df P w K mg base 6 "ways_from" ["web", "start"] S_ways_from) (P_handings : DfP P w K mg base 2 C "handings" S_handings) (P_parties : DfP P w K mg base 2 C "parties" S_parties) (hr : Room 6 (A.deeper (envOfC qual (defScope st_rings) s.heap.objs.size f cdv))) : ∃ t, GSs (cxOf CX0 P w K mg base N_rings qual (defScope st_rings) f cdv A outer s H E).nox (defBody st_rings) t (m_rings K C S_check_web S_shorter_first S_ways_from S_handings S_parties) := by
  exact ⟨_, (gss_cons (gs_expr (ge_callD D_check_web (hr.mono (by decide)) rfl (ga_cons (gv 0) ga_nil))) (gss_cons (gs_setO (i := 1) sc_rings.nd rfl (by first | exact Or.inl rfl | exact Or.inr rfl) (ge_lst gl_nil)) (gss_cons (gs_for PassesOwn.never rfl (gi_seq (gd (ge_propD P_parties (hr.mono (by decide)) (gd (gv 0))))) (gg_name sc_rings.nd rfl (by first | exact Or.inl rfl | exact Or.inr rfl)) (gss_one (gs_for PassesOwn.never rfl (gi_seq (gd (ge_callD D_ways_from (hr.mono (by decide)) rfl (ga_cons (gv 0) (ga_cons (gv 2) ga_nil))))) (gg_name sc_rings.nd rfl (by first | exact Or.inl rfl | exact Or.inr rfl)) (gss_one (gs_if (GW.gt (gw_and (gt_cmp (op_eqD hr.units) os_eq (ge_cb (cr_minA rfl hr.units) cs_minA rfl T.min_ (by decide +kernel) (ga_cons (gv 3) ga_nil)) (gv 2) (nomark _)) (gw_and1 (gt_cmp (op_inA (Room_un65 hr)) (os_in false) (ge_tup (gl_cons (gd (ge_ixG (gv 3) ge_neg1)) (gl_cons (gd (gv 2)) gl_nil))) (ge_propD P_handings (hr.mono (by decide)) (gd (gv 0))) rfl)))) (gss_one (gs_app (i := 1) (gd (gv 3)) fun h => pe_appendG (gv 1).pe h)) gss_nil))))) (gss_one (gs_ret (ge_callD D_shorter_first (hr.mono (by decide)) rfl (ga_cons (gv 1) ga_nil)))))))⟩
/-! ### has_common -/
abbrev st_has_common : Stmt := top 22
def N_has_common : List Str := ["lot", "other", "party"]
theorem sc_has_common : FnScope N_has_common ["lot", "other"] (defScope st_has_common) := ⟨rfl, rfl, rfl, by decide +kernel, rfl, by decide +kernel, by decide +kernel⟩
def m_has_common (K : PySem.W.Frag) (C : Addr) : GMS := (mRet (mCB fAny (mACons (mLc (mWalk (mVar 0)) (mgN 2) mYes (mDat (mOp (fIn false) (mVar 2) (mVar 1))) (List.map (fun x => x.2) ([("party", 2)] : List (Str × Nat)))) mANil)))
theorem d_has_common (T : Txt K mg C)  (hr : Room 1 (A.deeper (envOfC qual (defScope st_has_common) s.heap.objs.size f cdv))) : ∃ t, GSs (cxOf CX0 P w K mg base N_has_common qual (defScope st_has_common) f cdv A outer s H E).nox (defBody st_has_common) t (m_has_common K C) := by
  exact ⟨_, (gss_one (gs_ret (ge_cb (cr_any rfl) cs_any rfl T.any_ (by decide +kernel) (ga_cons (ge_lc (tG := (gName 2)) (tt := tYes) (te := (tOp (rInA K false) (tVar 2) (tVar 1))) rfl sc_has_common.nd (gi_seqC (gv 0)) (own := [("party", 2)]) (blk_by (by kernel_rfl)) (fun _ _ _ _ _ => (gg_name sc_has_common.nd rfl (by first | exact Or.inl rfl | exact Or.inr rfl))) (fun _ _ _ _ _ => gts_nil) (fun _ _ _ _ _ => (gd (ge_cmp (op_inA (Room_un65 hr)) (os_in false) (gv 2) (gv 1) rfl)))) ga_nil))))⟩
/-! ### apart -/
abbrev st_apart : Stmt := top 23
def N_apart : List Str := ["web", "groups", "ring", "free", "group", "other"]
theorem sc_apart : FnScope N_apart ["web"] (defScope st_apart) := ⟨rfl, rfl, rfl, by decide +kernel, rfl, by decide +kernel, by decide +kernel⟩
def m_apart (K : PySem.W.Frag) (C : Addr) (S_check_web S_has_common S_rings : Spc) : GMS := (mSeq (mDrop (mCall S_check_web (mACons (mVar 0) mANil))) (mSeq (mSet 1 (mLst (mLCons (mDat (mLst mLNil)) mLNil))) (mSeq (mFor (mWalkD (mDat (mCall S_rings (mACons (mVar 0) mANil)))) (mgN 2) (mSeq (mSet 3 (mLc (mWalk (mVar 1)) (mgN 4) (mNot (mTst (mCB fAny (mACons (mLc (mWalk (mVar 4)) (mgN 5) mYes (mDat (mCall S_has_common (mACons (mVar 2) (mACons (mVar 5) mANil)))) (List.map (fun x => x.2) ([("other", 5)] : List (Str × Nat)))) mANil)))) (mDat (mVar 4)) (List.map (fun x => x.2) ([("group", 4)] : List (Str × Nat))))) (mSet 1 (mOp fAdd (mVar 1) (mLc (mWalk (mVar 3)) (mgN 4) mYes (mDat (mOp fAdd (mVar 4) (mLst (mLCons (mDat (mVar 2)) mLNil)))) (List.map (fun x => x.2) ([("group", 4)] : List (Str × Nat)))))))) (mRet (mMaxLen (mVar 1))))))
theorem d_apart (T : Txt K mg C) {S_check_web S_has_common S_rings : Spc} (D_check_web : Df P w K mg base 2 "check_web" ["web"] S_check_web) (D_has_common : Df P w K mg base 2 "has_common" ["lot", "other"] S_has_common) (D_rings : Df P w K mg base 7 "rings" ["web"] S_rings) (hr : Room 7 (A.deeper (envOfC qual (defScope st_apart) s.heap.objs.size f cdv))) : ∃ t, GSs (cxOf CX0 P w K mg base N_apart qual (defScope st_apart) f cdv A outer s H E).nox (defBody st_apart) t (m_apart K C S_check_web S_has_common S_rings) := by
  exact ⟨_, (gss_cons (gs_expr (ge_callD D_check_web (hr.mono (by decide)) rfl (ga_cons (gv 0) ga_nil))) (gss_cons (gs_set (i := 1) sc_apart.nd rfl (by first | exact Or.inl rfl | exact Or.inr rfl) (ge_lst (gl_cons (gd (ge_lst gl_nil)) gl_nil))) (gss_cons (gs_for PassesOwn.never rfl (gi_seq (gd (ge_callD D_rings (hr.mono (by decide)) rfl (ga_cons (gv 0) ga_nil)))) (gg_name sc_apart.nd rfl (by first | exact Or.inl rfl | exact Or.inr rfl)) (gss_cons (gs_setLc (tG := (gName 4)) (tt := (tNot (tB (tCB (rAny K) (tCons (tLc (iSeq K (tVar 4)) (gName 5) tYes (tCall (GSp S_has_common) [] E0 (tCons (tVar 2) (tCons (tVar 5) tNil))) (List.map (fun x => x.2) ([("other", 5)] : List (Str × Nat)))) tNil))))) (te := (tVar 4)) rfl sc_apart.nd (i := 3) rfl rfl rfl (gi_seqC (gv 1)) (own := [("group", 4)]) (blk_by (by kernel_rfl)) (fun _ _ _ _ _ => (gg_name sc_apart.nd rfl (by first | exact Or.inl rfl | exact Or.inr rfl))) (fun _ _ _ _ _ => (gts_one (gt_not (gt_val (ge_cb (cr_any rfl) cs_any rfl T.any_ (by decide +kernel) (ga_cons (ge_lc (tG := (gName 5)) (tt := tYes) (te := (tCall (GSp S_has_common) [] E0 (tCons (tVar 2) (tCons (tVar 5) tNil)))) rfl sc_apart.nd (gi_seqC (gv 4)) (own := [("other", 5)]) (blk_by (by kernel_rfl)) (fun _ _ _ _ _ => (gg_name sc_apart.nd rfl (by first | exact Or.inl rfl | exact Or.inr rfl))) (fun _ _ _ _ _ => gts_nil) (fun _ _ _ _ _ => (gd (ge_callD D_has_common (hr.mono (by decide)) (by rfl) (ga_cons (gv 2) (ga_cons (gv 5) ga_nil)))))) ga_nil)))))) (fun _ _ _ _ _ => (gd (gv 4)))) (gss_one (gs_set (i := 1) sc_apart.nd rfl (by first | exact Or.inl rfl | exact Or.inr rfl) (ge_op op_addA os_add (gv 1) (ge_lc (tG := (gName 4)) (tt := tYes) (te := (tOp (rAddA K) (tVar 4) (tLst (tCons (tVar 2) tNil)))) rfl sc_apart.nd (gi_seqC (gv 3)) (own := [("group", 4)]) (blk_by (by kernel_rfl)) (fun _ _ _ _ _ => (gg_name sc_apart.nd rfl (by first | exact Or.inl rfl | exact Or.inr rfl))) (fun _ _ _ _ _ => gts_nil) (fun _ _ _ _ _ => (gd (ge_op op_addA os_add (gv 4) (ge_lst (gl_cons (gd (gv 2)) gl_nil))))))))))) (gss_one (gs_ret (ge_maxLen rfl hr.units rfl T.max_ (by decide +kernel) rfl T.len_ (gv 1)))))))⟩
/-! ### _law_most -/
abbrev st__law_most : Stmt := top 39
def N__law_most : List Str := ["_law_some", "_law_best", "_law_line", "_law_at", "_law_used", "_law_many", "_law_k", "_law_dot"]
theorem sc__law_most : FnScope N__law_most ["_law_some"] (defScope st__law_most) := ⟨rfl, rfl, rfl, by decide +kernel, rfl, by decide +kernel, by decide +kernel⟩
def m__law_most (K : PySem.W.Frag) (C : Addr) : GMS := (mSeq (mPar2 1 2 false true (mC (.int 0)) (mLst (mLCons (mDat (mTup (mLCons (mDat (mC (.int 0))) (mLCons (mDat (mTup mLNil)) (mLCons (mDat (mC (.int 0))) mLNil))))) mLNil))) (mSeq (mWh (mTst (mOp (fEq true) (mVar 2) (mLst mLNil))) (mSeq (mAsgPop 2 (mgT 3 (mgCons (mgN 3) (mgCons (mgN 4) (mgCons (mgN 5) mgNil))))) (mSeq (mSet 1 (mCB (fMM true) (mACons (mVar 1) (mACons (mVar 5) mANil)))) (mFor (mRng2 (mACons (mVar 3) (mACons (mCB fLen (mACons (mVar 0) mANil)) mANil))) (mgN 6) (mIf (mTst (mOp (fEq false) (mLc (mWalk (mOp fIx (mVar 0) (mVar 6))) (mgN 7) (mTst (mOp (fIn false) (mVar 7) (mVar 4))) (mDat (mVar 7)) (List.map (fun x => x.2) ([("_law_dot", 7)] : List (Str × Nat)))) (mLst mLNil))) (mApp 2 (mDat (mTup (mLCons (mDat (mOp fAdd (mVar 6) (mC (.int 1)))) (mLCons (mDat (mOp fAdd (mVar 4) (mOp fIx (mVar 0) (mVar 6)))) (mLCons (mDat (mOp fAdd (mVar 5) (mC (.int 1)))) mLNil)))))) mNext))))) (mRet (mVar 1))))
theorem d__law_most (T : Txt K mg C)  (hr : Room 1 (A.deeper (envOfC qual (defScope st__law_most) s.heap.objs.size f cdv))) : ∃ t, GSs (cxOf CX0 P w K mg base N__law_most qual (defScope st__law_most) f cdv A outer s H E).nox (defBody st__law_most) t (m__law_most K C) := by
  exact ⟨_, (gss_cons (gs_par2 false true (i := 1) (j := 2) rfl sc__law_most.nd rfl rfl (by decide) rfl rfl gi (ge_lst (gl_cons (gd (ge_tup (gl_cons (gd gi) (gl_cons (gd (ge_tup gl_nil)) (gl_cons (gd gi) gl_nil))))) gl_nil)) rfl) (gss_cons (gs_while PassesOwn.never (gt_cmp (op_neD hr.units) os_ne (gv 2) (ge_lst gl_nil) (nomark _)) (gss_cons (gs_asgPop (i := 2) (gv 2).pe (gg_tup rfl (ggs_cons (gg_name sc__law_most.nd rfl (by first | exact Or.inl rfl | exact Or.inr rfl)) (ggs_cons (gg_name sc__law_most.nd rfl (by first | exact Or.inl rfl | exact Or.inr rfl)) (ggs_cons (gg_name sc__law_most.nd rfl (by first | exact Or.inl rfl | exact Or.inr rfl)) ggs_nil))))) (gss_cons (gs_set (i := 1) sc__law_most.nd rfl (by first | exact Or.inl rfl | exact Or.inr rfl) (ge_cb (call_max2 rfl) cs_max2 rfl T.max_ (by decide +kernel) (ga_cons (gv 1) (ga_cons (gv 5) ga_nil)))) (gss_one (gs_for PassesOwn.never rfl (gi_rng2 rfl T.range_ (ga_cons (gv 3) (ga_cons (ge_cb cr_lenA cs_len rfl T.len_ (by decide +kernel) (ga_cons (gv 0) ga_nil)) ga_nil))) (gg_name sc__law_most.nd rfl (by first | exact Or.inl rfl | exact Or.inr rfl)) (gss_one (gs_if (gt_cmp (op_eqD hr.units) os_eq (ge_lc (tG := (gName 7)) (tt := (tTest (tOp (rInA K false) (tVar 7) (tVar 4)))) (te := (tVar 7)) rfl sc__law_most.nd (gi_seqC (ge_ixG (gv 0) (gv 6))) (own := [("_law_dot", 7)]) (blk_by (by kernel_rfl)) (fun _ _ _ _ _ => (gg_name sc__law_most.nd rfl (by first | exact Or.inl rfl | exact Or.inr rfl))) (fun _ _ _ _ _ => (gts_one (gt_cmp (op_inA (Room_un65 hr)) (os_in false) (gv 7) (gv 4) rfl))) (fun _ _ _ _ _ => (gd (gv 7)))) (ge_lst gl_nil) (nomark _)) (gss_one (gs_app (i := 2) (gd (ge_tup (gl_cons (gd (ge_op op_addA os_add (gv 6) gi)) (gl_cons (gd (ge_op op_addA os_add (gv 4) (ge_ixG (gv 0) (gv 6)))) (gl_cons (gd (ge_op op_addA os_add (gv 5) gi)) gl_nil))))) fun h => pe_appendG (gv 2).pe h)) gss_nil))))))) (gss_one (gs_ret (gv 1)))))⟩
/-! ### _law_right -/
abbrev st__law_right : Stmt := top 40
def N__law_right : List Str := ["_law_model_here", "_law_made", "_law_some", "_law_got", "_law_way", "_law_dots", "_law_looks"]
theorem sc__law_right : FnScope N__law_right ["_law_model_here", "_law_made"] (defScope st__law_right) := ⟨rfl, rfl, rfl, by decide +kernel, rfl, by decide +kernel, by decide +kernel⟩
def m__law_right (K : PySem.W.Frag) (C : Addr) (S__law_most S__law_rings S_apart : Spc) : GMS := (mSeq (mPar2F 2 3 false (mCall S__law_rings (mACons (mVar 0) mANil)) (mCallF S_apart (mACons (mVar 1) mANil))) (mSeq (mIf (mOr (mNot (mTst (mIsi K (.type "list") (mVar 3)))) (mTst (mOp (fEq true) (mLc (mWalk (mVar 3)) (mgN 4) (mTst (mOp (fIn true) (mVar 4) (mVar 2))) (mDat (mVar 4)) (List.map (fun x => x.2) ([("_law_way", 4)] : List (Str × Nat)))) (mLst mLNil)))) (mRet (mC (.bl false))) mNext) (mSeq (mSet 5 (mLst mLNil)) (mSeq (mFor (mWalkD (mDat (mVar 3))) (mgN 4) (mSet 5 (mOp fAdd (mVar 5) (mCB fList (mACons (mVar 4) mANil))))) (mSeq (mIf (mOr (mTst (mOp (fEq true) (mLenSet (mVar 5)) (mCB fLen (mACons (mVar 5) mANil)))) (mTst (mOp (fEq true) (mCB fLen (mACons (mVar 3) mANil)) (mCall S__law_most (mACons (mVar 2) mANil))))) (mRet (mC (.bl false))) mNext) (mSeq (mSet 6 (mCB fRepr (mACons (mVar 3) mANil))) (mSeq (mAppF 3) (mRet (mOp (fEqT false) (mCB fRepr (mACons (mCallR S_apart (mACons (mVar 1) mANil)) mANil)) (mVar 6))))))))))
theorem d__law_right (T : Txt K mg C) {S__law_most S__law_rings S_apart : Spc} (D__law_most : Df P w K mg base 2 "_law_most" ["_law_some"] S__law_most) (D__law_rings : Df P w K mg base 4 "_law_rings" ["_law_model_here"] S__law_rings) (D_apart : Df P w K mg base 8 "apart" ["web"] S_apart) (R_apart : DfR P w K mg base 8 "apart" ["web"] ["web"] S_apart) (gu : A.guards = some []) (hr : Room 8 (A.deeper (envOfC qual (defScope st__law_right) s.heap.objs.size f cdv))) : ∃ t, GSs (cxOf CX0 P w K mg base N__law_right qual (defScope st__law_right) f cdv A outer s H E).nox (defBody st__law_right) t (m__law_right K C S__law_most S__law_rings S_apart) := by
  exact ⟨_, (gss_cons (gs_parCF false (i := 2) (j := 3) rfl sc__law_right.nd rfl rfl (by first | exact Or.inl rfl | exact Or.inr rfl) (by first | exact Or.inl rfl | exact Or.inr rfl) (ge_callD D__law_rings (hr.mono (by decide)) rfl (ga_cons (gv 0) ga_nil)) (ge_callFD D_apart (hr.mono (by decide)) rfl (ga_cons (gv 1) ga_nil))) (gss_cons (gs_if (GW.gt (gw_or (gt_not (gt_val (ge_isi (.ty "list") rfl T.isinstance_ (gv 3) (pe_bty rfl T.list_ (by decide +kernel))))) (gw_or1 (gt_cmp (op_neD hr.units) os_ne (ge_lc (tG := (gName 4)) (tt := (tTest (tOp (rInA K true) (tVar 4) (tVar 2)))) (te := (tVar 4)) rfl sc__law_right.nd (gi_seqC (gv 3)) (own := [("_law_way", 4)]) (blk_by (by kernel_rfl)) (fun _ _ _ _ _ => (gg_name sc__law_right.nd rfl (by first | exact Or.inl rfl | exact Or.inr rfl))) (fun _ _ _ _ _ => (gts_one (gt_cmp (op_notInA (Room_un65 hr)) (os_in true) (gv 4) (gv 2) rfl))) (fun _ _ _ _ _ => (gd (gv 4)))) (ge_lst gl_nil) (nomark _))))) (gss_one (gs_ret gb)) gss_nil) (gss_cons (gs_set (i := 5) sc__law_right.nd rfl (by first | exact Or.inl rfl | exact Or.inr rfl) (ge_lst gl_nil)) (gss_cons (gs_for PassesOwn.never rfl (gi_seq (gd (gv 3))) (gg_name sc__law_right.nd rfl (by first | exact Or.inl rfl | exact Or.inr rfl)) (gss_one (gs_set (i := 5) sc__law_right.nd rfl (by first | exact Or.inl rfl | exact Or.inr rfl) (ge_op op_addA os_add (gv 5) (ge_ct call_list_of cs_list rfl T.list_ (by decide +kernel) (ga_cons (gv 4) ga_nil)))))) (gss_cons (gs_if (GW.gt (gw_or (gt_cmp (op_neD hr.units) os_ne (ge_lenSet rfl hr.units rfl T.len_ rfl T.set_ (gv 5)) (ge_cb cr_lenA cs_len rfl T.len_ (by decide +kernel) (ga_cons (gv 5) ga_nil)) (nomark _)) (gw_or1 (gt_cmp (op_neD hr.units) os_ne (ge_cb cr_lenA cs_len rfl T.len_ (by decide +kernel) (ga_cons (gv 3) ga_nil)) (ge_callD D__law_most (hr.mono (by decide)) rfl (ga_cons (gv 2) ga_nil)) (nomark _))))) (gss_one (gs_ret gb)) gss_nil) (gss_cons (gs_set (i := 6) sc__law_right.nd rfl (by first | exact Or.inl rfl | exact Or.inr rfl) (ge_cb (cr_repr gu hr.units) cs_repr rfl T.repr_ (by decide +kernel) (ga_cons (gv 3) ga_nil))) (gss_cons (gs_appF (i := 3) pe_non fun h => pe_appendG (gv 3).pe h) (gss_one (gs_ret (ge_cmp (op_eqT hr.units) os_eqT (ge_cb (cr_repr gu hr.units) cs_repr rfl T.repr_ (by decide +kernel) (ga_cons (ge_callDR R_apart (hr.mono (by decide)) rfl (gk_cons (gv 1) gk_nil)) ga_nil)) (gv 6) (nomark _)))))))))))⟩
/-! ### Web.with_handing -/
abbrev st_W_with_handing : Stmt := inClass (top 15) 6
def N_W_with_handing : List Str := ["self", "handing"]
theorem sc_W_with_handing : FnScope N_W_with_handing ["self", "handing"] (defScope st_W_with_handing) := ⟨rfl, rfl, rfl, by decide +kernel, rfl, by decide +kernel, by decide +kernel⟩
def m_W_with_handing (K : PySem.W.Frag) (C : Addr) (S_Web S_is_handing : Spc) : GMS := (mSeq (mIf (mOr (mNot (mTst (mCall S_is_handing (mACons (mVar 1) (mACons (mFld C "_parties" (mDat (mVar 0))) mANil))))) (mTst (mOp (fIn false) (mVar 1) (mFld C "_handings" (mDat (mVar 0)))))) mNever mNext) (mRet (mCall S_Web (mACons (mFld C "_parties" (mDat (mVar 0))) (mACons (mOp fAdd (mFld C "_handings" (mDat (mVar 0))) (mTup (mLCons (mDat (mVar 1)) mLNil))) mANil)))))
theorem d_W_with_handing (T : Txt K mg C) {S_Web S_is_handing : Spc} (C_Web : DfC P w K mg base 4 "Web" C ["self", "parties", "handings"] S_Web) (D_is_handing : Df P w K mg base 2 "is_handing" ["value", "parties"] S_is_handing) (hr : Room 5 (A.deeper (envOfC qual (defScope st_W_with_handing) s.heap.objs.size f cdv))) : ∃ t, GSs (cxOf CX0 P w K mg base N_W_with_handing qual (defScope st_W_with_handing) f cdv A outer s H E).nox (defBody st_W_with_handing) t (m_W_with_handing K C S_Web S_is_handing) := by
  exact ⟨_, (gss_cons (gs_if (GW.gt (gw_or (gt_not (gt_val (ge_callD D_is_handing (hr.mono (by decide)) rfl (ga_cons (gv 1) (ga_cons (ge_fld (gd (gv 0)) T.cl T._parties_n rfl) ga_nil))))) (gw_or1 (gt_cmp (op_inA (Room_un65 hr)) (os_in false) (gv 1) (ge_fld (gd (gv 0)) T.cl T._handings_n rfl) rfl)))) (gss_one gs_never) gss_nil) (gss_one (gs_ret (ge_makeD C_Web (hr.mono (by decide)) rfl (ga_cons (ge_fld (gd (gv 0)) T.cl T._parties_n rfl) (ga_cons (ge_op op_addA os_add (ge_fld (gd (gv 0)) T.cl T._handings_n rfl) (ge_tup (gl_cons (gd (gv 1)) gl_nil))) ga_nil))))))⟩
/-! ### law -/
abbrev st_law : Stmt := top 41
def N_law : List Str := ["_law_script", "_law_draw", "_law_turn", "_law_model_here", "_law_row", "_law_pairs_here", "_law_ties", "_law_made", "_law_more", "_law_near", "_law_k", "_law_pair", "_law_one", "_law_other"]
theorem sc_law : FnScope N_law ["_law_script"] (defScope st_law) := ⟨rfl, rfl, rfl, by decide +kernel, rfl, by decide +kernel, by decide +kernel⟩
def m_law (K : PySem.W.Frag) (C : Addr) (S__law_mixed S__law_model S__law_pairs S__law_take S__law_web S__law_right S_with_handing : Spc) : GMS := (mSeq (mFor (mRng1 (mACons (mOp fAdd (mC (.int 1)) (mCB (fMM false) (mACons (mLenScr 0) (mACons (mC (.int 1)) mANil)))) mANil)) (mgN 2) (mSeq (mSetCD 3 S__law_model (mACons (mVar 1) (mACons (mC (.int 6)) (mACons (mC (.int 12)) mANil)))) (mSeq (mIf (mTst (mOp (fEq false) (mCall S__law_take (mACons (mVar 1) (mACons (mC (.int 3)) mANil))) (mC (.int 0)))) (mSeq (mSet 4 (mCall S__law_mixed (mACons (mVar 1) (mACons (mDGetO 3 "dots") mANil)))) (mSeq (mSet 5 (mLc (mRng3 (mACons (mC (.int 0)) (mACons (mOp fSub (mCB fLen (mACons (mVar 4) mANil)) (mC (.int 1))) (mACons (mC (.int 2)) mANil)))) (mgN 10) mYes (mDat (mTup (mLCons (mDat (mOp fIx (mVar 4) (mVar 10))) (mLCons (mDat (mOp fIx (mVar 4) (mOp fAdd (mVar 10) (mC (.int 1))))) mLNil)))) (List.map (fun x => x.2) ([("_law_k", 10)] : List (Str × Nat))))) (mSeq (mSet 6 (mLc (mWalk (mOp fAdd (mVar 5) (mLc (mWalk (mVar 5)) (mgT 2 (mgCons (mgN 12) (mgCons (mgN 13) mgNil))) mYes (mDat (mTup (mLCons (mDat (mVar 13)) (mLCons (mDat (mVar 12)) mLNil)))) (List.map (fun x => x.2) ([("_law_one", 12), ("_law_other", 13)] : List (Str × Nat)))))) (mgN 11) (mTst (mOp (fIn true) (mVar 11) (mDGetO 3 "ties"))) (mDat (mVar 11)) (List.map (fun x => x.2) ([("_law_pair", 11)] : List (Str × Nat))))) (mDPutO 3 "ties" (mDat (mCB fSorted (mACons (mSl (mOp fAdd (mVar 6) (mDGetO 3 "ties")) mONone (mOSome (mC (.int 12)))) mANil))))))) mNext) (mSeq (mFrzD 3 (mSet 7 (mCall S__law_web (mACons (mVar 3) mANil)))) (mSeq (mIf (mNot (mTst (mCall S__law_right (mACons (mVar 3) (mACons (mVar 7) mANil))))) (mRet (mC (.bl false))) mNext) (mSeq (mSet 8 (mSl (mLc (mWalk (mCall S__law_mixed (mACons (mVar 1) (mACons (mCall S__law_pairs (mACons (mDGet "dots" (mDat (mVar 3))) mANil)) mANil)))) (mgN 11) (mTst (mOp (fIn true) (mVar 11) (mDGet "ties" (mDat (mVar 3))))) (mDat (mVar 11)) (List.map (fun x => x.2) ([("_law_pair", 11)] : List (Str × Nat)))) mONone (mOSome (mC (.int 1))))) (mIf (mAnd (mTst (mOp (fEq true) (mVar 8) (mLst mLNil))) (mTst (mOp fLt (mCB fLen (mACons (mDGet "ties" (mDat (mVar 3))) mANil)) (mC (.int 12))))) (mSeq (mSet 9 (mDisp ["dots", "ties"] (mLCons (mDat (mDGet "dots" (mDat (mVar 3)))) (mLCons (mDat (mCB fSorted (mACons (mOp fAdd (mDGet "ties" (mDat (mVar 3))) (mVar 8)) mANil))) mLNil)))) (mIf (mOr (mNot (mTst (mCall S__law_right (mACons (mVar 9) (mACons (mMeth C "with_handing" S_with_handing (mDat (mVar 7)) (mACons (mOp fIx (mVar 8) (mC (.int 0))) mANil)) mANil))))) (mNot (mTst (mCall S__law_right (mACons (mVar 3) (mACons (mVar 7) mANil)))))) (mRet (mC (.bl false))) mNext)) mNext))))))) (mRet (mC (.bl true))))
theorem d_law (T : Txt K mg C) {S__law_mixed S__law_model S__law_pairs S__law_take S__law_web S__law_right S_with_handing : Spc} (D__law_mixed : Df P w K mg base 4 "_law_mixed" ["_law_draw", "_law_some"] S__law_mixed) (D__law_model : Df P w K mg base 6 "_law_model" ["_law_draw", "_law_most_here", "_law_many"] S__law_model) (D__law_pairs : Df P w K mg base 2 "_law_pairs" ["_law_some"] S__law_pairs) (D__law_take : Df P w K mg base 3 "_law_take" ["_law_draw", "_law_size"] S__law_take) (D__law_web : Df P w K mg base 6 "_law_web" ["_law_model_here"] S__law_web) (D__law_right : DfG P w K mg base 9 "_law_right" ["_law_model_here", "_law_made"] S__law_right) (M_with_handing : DfM P w K mg base 6 C "with_handing" ["self", "handing"] S_with_handing) (gu : A.guards = some []) (hr : Room 9 (A.deeper (envOfC qual (defScope st_law) s.heap.objs.size f cdv))) : ∃ t, GSs (cxOf CX0 P w K mg base N_law qual (defScope st_law) f cdv A outer s H E).nox (defBody st_law).tail t (m_law K C S__law_mixed S__law_model S__law_pairs S__law_take S__law_web S__law_right S_with_handing) := by
  exact ⟨_, (gss_cons (gs_for PassesOwn.never rfl (gi_rng1 rfl T.range_ (ga_cons (ge_op op_addA os_add gi (ge_cb (call_min2 rfl) cs_min2 rfl T.min_ (by decide +kernel) (ga_cons (ge_lenScr rfl T.len_ (by decide +kernel) (gv 0).pe) (ga_cons gi ga_nil)))) ga_nil)) (gg_name sc_law.nd rfl (by first | exact Or.inl rfl | exact Or.inr rfl)) (gss_cons (gs_setCD (i := 3) D__law_model (hr.mono (by decide)) rfl sc_law.nd rfl (by first | exact Or.inl rfl | exact Or.inr rfl) (ga_cons (gv 1) (ga_cons gi (ga_cons gi ga_nil)))) (gss_cons (gs_if (gt_cmp (op_eqD hr.units) os_eq (ge_callD D__law_take (hr.mono (by decide)) rfl (ga_cons (gv 1) (ga_cons gi ga_nil))) gi (nomark _)) (gss_cons (gs_set (i := 4) sc_law.nd rfl (by first | exact Or.inl rfl | exact Or.inr rfl) (ge_callD D__law_mixed (hr.mono (by decide)) rfl (ga_cons (gv 1) (ga_cons (ge_dgetO (hu_of hr) (gv 3).pe) ga_nil)))) (gss_cons (gs_setLc (tG := (gName 10)) (tt := tYes) (te := (tTup (tCons (tOp (rIxA K) (tVar 4) (tVar 10)) (tCons (tOp (rIxA K) (tVar 4) (tOp (rAddA K) (tVar 10) (tC (.int 1)))) tNil)))) rfl sc_law.nd (i := 5) rfl rfl rfl (GI.c (gi_rng3 rfl T.range_ (ga_cons gi (ga_cons (ge_op op_sub os_sub (ge_cb cr_lenA cs_len rfl T.len_ (by decide +kernel) (ga_cons (gv 4) ga_nil)) gi) (ga_cons gi ga_nil))))) (own := [("_law_k", 10)]) (blk_by (by kernel_rfl)) (fun _ _ _ _ _ => (gg_name sc_law.nd rfl (by first | exact Or.inl rfl | exact Or.inr rfl))) (fun _ _ _ _ _ => gts_nil) (fun _ _ _ _ _ => (gd (ge_tup (gl_cons (gd (ge_ixG (gv 4) (gv 10))) (gl_cons (gd (ge_ixG (gv 4) (ge_op op_addA os_add (gv 10) gi))) gl_nil)))))) (gss_cons (gs_setLc (tG := (gName 11)) (tt := (tTest (tOp (rInA K true) (tVar 11) (tDGet (tVar 3) (tC (.str "ties")))))) (te := (tVar 11)) rfl sc_law.nd (i := 6) rfl rfl rfl (gi_seqC (ge_op op_addA os_add (gv 5) (ge_lc (tG := (gTup K 2 (gCons (gName 12) (gCons (gName 13) gNil)))) (tt := tYes) (te := (tTup (tCons (tVar 13) (tCons (tVar 12) tNil)))) rfl sc_law.nd (gi_seqC (gv 5)) (own := [("_law_one", 12), ("_law_other", 13)]) (blk_by (by kernel_rfl)) (fun _ _ _ _ _ => (gg_tup rfl (ggs_cons (gg_name sc_law.nd rfl (by first | exact Or.inl rfl | exact Or.inr rfl)) (ggs_cons (gg_name sc_law.nd rfl (by first | exact Or.inl rfl | exact Or.inr rfl)) ggs_nil)))) (fun _ _ _ _ _ => gts_nil) (fun _ _ _ _ _ => (gd (ge_tup (gl_cons (gd (gv 13)) (gl_cons (gd (gv 12)) gl_nil)))))))) (own := [("_law_pair", 11)]) (blk_by (by kernel_rfl)) (fun _ _ _ _ _ => (gg_name sc_law.nd rfl (by first | exact Or.inl rfl | exact Or.inr rfl))) (fun _ _ _ _ _ => (gts_one (gt_cmp (op_notInA (Room_un65 hr)) (os_in true) (gv 11) (ge_dgetO (hu_of hr) (gv 3).pe) rfl))) (fun _ _ _ _ _ => (gd (gv 11)))) (gss_one (gs_dputO (hu_of hr) (gv 3).pe (gd (ge_cb (cr_sortedD hr.units) cs_sorted rfl T.sorted_ (by decide +kernel) (ga_cons (ge_sl (ge_op op_addA os_add (gv 6) (ge_dgetO (hu_of hr) (gv 3).pe)) go_none (go_some gi)) ga_nil)))))))) gss_nil) (gss_cons (gs_frzD (i := 3) (gs_set (i := 7) sc_law.nd rfl (by first | exact Or.inl rfl | exact Or.inr rfl) (ge_callD D__law_web (hr.mono (by decide)) rfl (ga_cons (gv 3) ga_nil)))) (gss_cons (gs_if (gt_not (gt_val (ge_callDG D__law_right (hr.mono (by decide)) gu rfl (ga_cons (gv 3) (ga_cons (gv 7) ga_nil))))) (gss_one (gs_ret gb)) gss_nil) (gss_cons (gs_set (i := 8) sc_law.nd rfl (by first | exact Or.inl rfl | exact Or.inr rfl) (ge_sl (ge_lc (tG := (gName 11)) (tt := (tTest (tOp (rInA K true) (tVar 11) (tDGet (tVar 3) (tC (.str "ties")))))) (te := (tVar 11)) rfl sc_law.nd (gi_seqC (ge_callD D__law_mixed (hr.mono (by decide)) (by rfl) (ga_cons (gv 1) (ga_cons (ge_callD D__law_pairs (hr.mono (by decide)) (by rfl) (ga_cons (ge_dget (hu_of hr) (gd (gv 3))) ga_nil)) ga_nil)))) (own := [("_law_pair", 11)]) (blk_by (by kernel_rfl)) (fun _ _ _ _ _ => (gg_name sc_law.nd rfl (by first | exact Or.inl rfl | exact Or.inr rfl))) (fun _ _ _ _ _ => (gts_one (gt_cmp (op_notInA (Room_un65 hr)) (os_in true) (gv 11) (ge_dget (hu_of hr) (gd (gv 3))) rfl))) (fun _ _ _ _ _ => (gd (gv 11)))) go_none (go_some gi))) (gss_one (gs_if (GW.gt (gw_and (gt_cmp (op_neD hr.units) os_ne (gv 8) (ge_lst gl_nil) (nomark _)) (gw_and1 (gt_cmp op_lt os_lt (ge_cb cr_lenA cs_len rfl T.len_ (by decide +kernel) (ga_cons (ge_dget (hu_of hr) (gd (gv 3))) ga_nil)) gi (nomark _))))) (gss_cons (gs_set (i := 9) sc_law.nd rfl (by first | exact Or.inl rfl | exact Or.inr rfl) (ge_disp (gps_cons (gd (ge_dget (hu_of hr) (gd (gv 3)))) (gps_cons (gd (ge_cb (cr_sortedD hr.units) cs_sorted rfl T.sorted_ (by decide +kernel) (ga_cons (ge_op op_addA os_add (ge_dget (hu_of hr) (gd (gv 3))) (gv 8)) ga_nil))) gps_nil)))) (gss_one (gs_if (GW.gt (gw_or (gt_not (gt_val (ge_callDG D__law_right (hr.mono (by decide)) gu rfl (ga_cons (gv 9) (ga_cons (ge_methD M_with_handing (hr.mono (by decide)) (gd (gv 7)) (ga_cons (ge_ixG (gv 8) gi) ga_nil)) ga_nil))))) (gw_or1 (gt_not (gt_val (ge_callDG D__law_right (hr.mono (by decide)) gu rfl (ga_cons (gv 3) (ga_cons (gv 7) ga_nil)))))))) (gss_one (gs_ret gb)) gss_nil))) gss_nil)))))))) (gss_one (gs_ret gb)))⟩
theorem q__law_begin (T : Txt K mg C) (hr : Room 1 (A.deeper (envOfC qual (defScope st__law_begin) s.heap.objs.size f cdv))) : PS (cxOf CX0 P w K mg base N__law_begin qual (defScope st__law_begin) f cdv A outer s H E).nox ((defBody st__law_begin).getD 1 (.Pass ⟨0, 0, 0, 0⟩)) (tRet (tDisp [(tC (.str "great"), tVar 1), (tC (.str "rest"), tC (.int 0)), (tC (.str "cells"), (tLc (iSeq K (tVar 0)) (gName 2) tYes (tCB rAbs (tCons (tVar 2) tNil)) (List.map (fun x => x.2) ([("_law_cell", 2)] : List (Str × Nat))))), (tC (.str "turn"), tC (.int 0))])) ∧ SndE K (tLc (iSeq K (tVar 0)) (gName 2) tYes (tCB rAbs (tCons (tVar 2) tNil)) (List.map (fun x => x.2) ([("_law_cell", 2)] : List (Str × Nat)))) (mLc (mWalkScr 0) (mgN 2) mYes (mDat (mCB fAbs (mACons (mVar 2) mANil))) (List.map (fun x => x.2) ([("_law_cell", 2)] : List (Str × Nat)))) := by
  have e : GE (cxOf CX0 P w K mg base N__law_begin qual (defScope st__law_begin) f cdv A outer s H E).nox (retVal ((defBody st__law_begin).getD 1 (.Pass ⟨0, 0, 0, 0⟩)) 2) (tLc (iSeq K (tVar 0)) (gName 2) tYes (tCB rAbs (tCons (tVar 2) tNil)) (List.map (fun x => x.2) ([("_law_cell", 2)] : List (Str × Nat)))) (mLc (mWalkScr 0) (mgN 2) mYes (mDat (mCB fAbs (mACons (mVar 2) mANil))) (List.map (fun x => x.2) ([("_law_cell", 2)] : List (Str × Nat)))) := (ge_lc (tG := (gName 2)) (tt := tYes) (te := (tCB rAbs (tCons (tVar 2) tNil))) rfl sc__law_begin.nd (GI.c (gi_scr (gv 0).pe)) (own := [("_law_cell", 2)]) (blk_by (by kernel_rfl)) (fun _ _ _ _ _ => (gg_name sc__law_begin.nd rfl (by first | exact Or.inl rfl | exact Or.inr rfl))) (fun _ _ _ _ _ => gts_nil) (fun _ _ _ _ _ => (gd (ge_cb cr_abs cs_abs rfl T.abs_ (by decide +kernel) (ga_cons (gv 2) ga_nil)))))
  exact ⟨ps_ret (pe_disp (pps_cons pe_str (gv 1).pe (pps_cons pe_str pe_int (pps_cons pe_str e.pe (pps_cons pe_str pe_int pps_nil)))) rfl rfl (by simp) (by decide)), e.sn⟩
def t__law_cells (K : PySem.W.Frag) : TE := (tLc (iSeq K (tVar 0)) (gName 2) tYes (tCB rAbs (tCons (tVar 2) tNil)) (List.map (fun x => x.2) ([("_law_cell", 2)] : List (Str × Nat))))
def m__law_cells : GM := (mLc (mWalkScr 0) (mgN 2) mYes (mDat (mCB fAbs (mACons (mVar 2) mANil))) (List.map (fun x => x.2) ([("_law_cell", 2)] : List (Str × Nat))))
end
end GL
end
section
set_option linter.all false
set_option maxRecDepth 100000
set_option maxHeartbeats 0
namespace GH
open PySem PySem.Spec PyProof.Rows L2 GL
def D__law_begin : He.DefD := ⟨("_law_begin", none), "_law_begin", "_law_begin", defArgs st__law_begin, defBody st__law_begin, defScope st__law_begin, [], []⟩
def D__law_blend : He.DefD := ⟨("_law_blend", none), "_law_blend", "_law_blend", defArgs st__law_blend, defBody st__law_blend, defScope st__law_blend, [], []⟩
def D__law_take : He.DefD := ⟨("_law_take", none), "_law_take", "_law_take", defArgs st__law_take, defBody st__law_take, defScope st__law_take, [], []⟩
def D__law_pick : He.DefD := ⟨("_law_pick", none), "_law_pick", "_law_pick", defArgs st__law_pick, defBody st__law_pick, defScope st__law_pick, [], []⟩
def D__law_names : He.DefD := ⟨("_law_names", none), "_law_names", "_law_names", defArgs st__law_names, defBody st__law_names, defScope st__law_names, [], []⟩
def D__law_mixed : He.DefD := ⟨("_law_mixed", none), "_law_mixed", "_law_mixed", defArgs st__law_mixed, defBody st__law_mixed, defScope st__law_mixed, [], []⟩
def D__law_pairs : He.DefD := ⟨("_law_pairs", none), "_law_pairs", "_law_pairs", defArgs st__law_pairs, defBody st__law_pairs, defScope st__law_pairs, [], []⟩
def D__law_model : He.DefD := ⟨("_law_model", none), "_law_model", "_law_model", defArgs st__law_model, defBody st__law_model, defScope st__law_model, [], []⟩
def D_is_list : He.DefD := ⟨("is_list", none), "is_list", "is_list", defArgs st_is_list, defBody st_is_list, defScope st_is_list, [], []⟩
def D_is_name : He.DefD := ⟨("is_name", none), "is_name", "is_name", defArgs st_is_name, defBody st_is_name, defScope st_is_name, [], []⟩
def D_are_parties : He.DefD := ⟨("are_parties", none), "are_parties", "are_parties", defArgs st_are_parties, defBody st_are_parties, defScope st_are_parties, [], []⟩
def D_is_handing : He.DefD := ⟨("is_handing", none), "is_handing", "is_handing", defArgs st_is_handing, defBody st_is_handing, defScope st_is_handing, [], []⟩
def D_are_handings : He.DefD := ⟨("are_handings", none), "are_handings", "are_handings", defArgs st_are_handings, defBody st_are_handings, defScope st_are_handings, [], []⟩
def D_W___init__ : He.DefD := ⟨("Web", some "__init__"), "__init__", "Web.__init__", defArgs st_W___init__, defBody st_W___init__, defScope st_W___init__, [], []⟩
def D__law_web : He.DefD := ⟨("_law_web", none), "_law_web", "_law_web", defArgs st__law_web, defBody st__law_web, defScope st__law_web, [], []⟩
def D__law_before : He.DefD := ⟨("_law_before", none), "_law_before", "_law_before", defArgs st__law_before, defBody st__law_before, defScope st__law_before, [], []⟩
def D__law_next : He.DefD := ⟨("_law_next", none), "_law_next", "_law_next", defArgs st__law_next, defBody st__law_next, defScope st__law_next, [], []⟩
def D__law_shorter : He.DefD := ⟨("_law_shorter", none), "_law_shorter", "_law_shorter", defArgs st__law_shorter, defBody st__law_shorter, defScope st__law_shorter, [], []⟩
def D__law_ways : He.DefD := ⟨("_law_ways", none), "_law_ways", "_law_ways", defArgs st__law_ways, defBody st__law_ways, defScope st__law_ways, [], []⟩
def D__law_rings : He.DefD := ⟨("_law_rings", none), "_law_rings", "_law_rings", defArgs st__law_rings, defBody st__law_rings, defScope st__law_rings, [], []⟩
def D_check_web : He.DefD := ⟨("check_web", none), "check_web", "check_web", defArgs st_check_web, defBody st_check_web, defScope st_check_web, [], []⟩
def D_check_party : He.DefD := ⟨("check_party", none), "check_party", "check_party", defArgs st_check_party, defBody st_check_party, defScope st_check_party, [], []⟩
def D_W_outs : He.DefD := ⟨("Web", some "outs"), "outs", "Web.outs", defArgs st_W_outs, defBody st_W_outs, defScope st_W_outs, [], []⟩
def D_ways_from : He.DefD := ⟨("ways_from", none), "ways_from", "ways_from", defArgs st_ways_from, defBody st_ways_from, defScope st_ways_from, [], []⟩
def D_shorter_first : He.DefD := ⟨("shorter_first", none), "shorter_first", "shorter_first", defArgs st_shorter_first, defBody st_shorter_first, defScope st_shorter_first, [], []⟩
def D_rings : He.DefD := ⟨("rings", none), "rings", "rings", defArgs st_rings, defBody st_rings, defScope st_rings, [], []⟩
def D_has_common : He.DefD := ⟨("has_common", none), "has_common", "has_common", defArgs st_has_common, defBody st_has_common, defScope st_has_common, [], []⟩
def D_apart : He.DefD := ⟨("apart", none), "apart", "apart", defArgs st_apart, defBody st_apart, defScope st_apart, [], []⟩
def D__law_most : He.DefD := ⟨("_law_most", none), "_law_most", "_law_most", defArgs st__law_most, defBody st__law_most, defScope st__law_most, [], []⟩
def D__law_right : He.DefD := ⟨("_law_right", none), "_law_right", "_law_right", defArgs st__law_right, defBody st__law_right, defScope st__law_right, [], []⟩
def D_W_with_handing : He.DefD := ⟨("Web", some "with_handing"), "with_handing", "Web.with_handing", defArgs st_W_with_handing, defBody st_W_with_handing, defScope st_W_with_handing, [], []⟩
def D_law : He.DefD := ⟨("law", none), "law", "law", defArgs st_law, defBody st_law, defScope st_law, [], []⟩
def fn0 : List He.DefD := [D__law_begin, D__law_blend, D__law_take, D__law_pick, D__law_names, D__law_mixed, D__law_pairs, D__law_model, D_is_list, D_is_name, D_are_parties, D_is_handing]
def fn1 : List He.DefD := [D_are_handings, D_W___init__, D__law_web, D__law_before, D__law_next, D__law_shorter, D__law_ways, D__law_rings, D_check_web, D_check_party, D_W_outs, D_ways_from]
def fn2 : List He.DefD := [D_shorter_first, D_rings, D_has_common, D_apart, D__law_most, D__law_right, D_W_with_handing, D_law]
def fn : List He.DefD := fn0 ++ fn1 ++ fn2
def fa0 : List He.Fa := [.glo "_law_begin", .glo "_law_blend", .glo "_law_take", .glo "_law_pick", .glo "_law_names", .glo "_law_mixed", .glo "_law_pairs", .glo "_law_model", .glo "is_list", .glo "is_name", .glo "are_parties", .glo "is_handing", .glo "are_handings", .glo "_law_web", .glo "_law_before", .glo "_law_next", .glo "_law_shorter", .glo "_law_ways", .glo "_law_rings", .glo "check_web", .glo "check_party", .glo "ways_from", .glo "shorter_first", .glo "rings", .glo "has_common", .glo "apart", .glo "_law_most", .glo "_law_right", .glo "law", .glo "Web"]
def fa1 : List He.Fa := [.free "abs", .free "all", .free "any", .free "int", .free "isinstance", .free "len", .free "list", .free "max", .free "min", .free "range", .free "repr", .free "set", .free "sorted", .free "str", .free "tuple", .str "LETTERS" "abcdefghijklmnopqrstuvwxyz", .cls "Web", .mkr "Web", .noat "Web" "_handings", .noat "Web" "_parties", .meth "Web" "outs", .meth "Web" "with_handing"]
def fa : List He.Fa := fa0 ++ fa1
def ln0 : List PySem.Str := ["_wall", "__name__", "copied", "LockError", "BadWeb", "NoParty", "NoHanding", "LETTERS", "is_list", "is_name", "are_parties", "is_handing", "are_handings", "Web", "check_web", "check_party", "shorter_first", "ways_from", "rings", "has_common", "apart", "_law_begin", "_law_blend", "_law_pick", "_law_mixed", "_law_take", "_law_names", "_law_pairs", "_law_model", "_law_web"]
def ln1 : List PySem.Str := ["_law_next", "_law_before", "_law_shorter", "_law_ways", "_law_rings", "_law_most", "_law_right"]
def loose : List PySem.Str := ln0 ++ ln1
def ex (K : PySem.W.Frag) : Bool := propB K "Web" "parties" "Web.parties" && propB K "Web" "handings" "Web.handings" && clsB K "Web"
def tf : List He.Defn := [("shorter_first", none)]
def obsY (n : Nat) (g : Addr → Option Obj) : He.AlX × List He.FnW := (He.obsX n fa fn [] tf ex g, [fnA (He.frT g (He.asD g n)) (gtr (He.frT g (He.asD g n)) "Web" "parties"), fnA (He.frT g (He.asD g n)) (gtr (He.frT g (He.asD g n)) "Web" "handings")])
def gvs : List He.FnW := [gval st_W_parties "parties" "Web.parties", gval st_W_handings "handings" "Web.handings"]
def hookY (n : Nat) : PySem.W.Hook where
  α := He.AlX × List He.FnW
  obs := fun s => obsY n s.heap.get?
  val := fun w => (He.valX fn [] w, gvs)
  says := fun w h => ∃ K : PySem.W.Frag, K.In h ∧ He.SaysX fa fn [] tf ex w h K ∧ [fnA K (gtr K "Web" "parties"), fnA K (gtr K "Web" "handings")] = gvs
  of := fun _ _ e => ⟨_, He.frT_in, He.saysX_of (congrArg (fun z : He.AlX × List He.FnW => z.1) e), congrArg (fun z : He.AlX × List He.FnW => z.2) e⟩
  keeps := fun _ _ _ ⟨K, hK, c, q⟩ k => ⟨K, PySem.W.Frag.In.keeps hK k, ⟨c.t, c.more, c.hd, c.out, fun p hp => k _ _ (c.empty p hp)⟩, q⟩
theorem obsY_eq {n : Nat} {g : Addr → Option Obj} {s : Shared} (h : ∀ a, g a = s.heap.get? a) : obsY n g = (hookY n).obs s := by
  have e : g = s.heap.get? := funext h
  rw [e] <;> rfl
abbrev lawO : PySem.W.OpenLaw := PySem.Challenge.rw_handlocks_k13_rings_apart
abbrev R : PySem.W.OpenRow := PySem.W.OpenLaw.row lawO
abbrev qv : Program := PySem.W.view R.prog [41]
def ob (s : PySem.W.SharedT) : He.AlX × List He.FnW := obsY 6 (HandSHeadRun.getT s)
theorem ob_eq (s : PySem.W.SharedT) : ob s = (hookY 6).obs s.abs := obsY_eq (HandSHeadRun.getT_eq s)
theorem run (w : World) : HandSHeadRun.RunEq R qv (hookY 6) ob 4000 loose w := by
  intro os
  kernel_rfl
end GH
end
section
set_option linter.all false
set_option maxRecDepth 100000
set_option maxHeartbeats 4000000
namespace GL
open PySem L2 PySem.W PyProof.Rows
variable [TabCx]
/-! ### comprehensions, read -/
theorem lc_listF {α β : Type} {g : D → Env → (Env → Prop) → Prop} {mt : GMT} {md : GMD} {ρ : Env} {P : List D → Prop} (e : α → D) (p : α → Bool) (q : β → D) (f : α → β) : ∀ (as : List α) (acc : List D),
    (∀ a ∈ as, ∀ (Pt : D → Prop) (Pf : Prop), (if p a = true then Pt (q (f a)) else Pf) → g (e a) ρ fun ρ1 => mt ρ1 fun b => if b = true then md ρ1 Pt else Pf) → acc.length + (as.filter p).length ≤ sizeLine → P (acc ++ ((as.filter p).map f).map q) → mLcL g mt md (as.map e) ρ acc P
  | [], acc, _, _, h => by
    show P acc
    simpa using h
  | a :: as, acc, H, hl, h => by
    refine H a List.mem_cons_self _ _ ?_
    by_cases c : p a = true
    · rw [if_pos c]
      rw [List.filter_cons_of_pos c] at h hl
      rw [List.length_cons] at hl
      refine ⟨by omega, lc_listF e p q f as _ (fun b hb => H b (List.mem_cons_of_mem _ hb)) (by simp; omega) ?_⟩
      simpa using h
    · rw [if_neg c]
      rw [List.filter_cons_of_neg c] at h hl
      exact lc_listF e p q f as _ (fun b hb => H b (List.mem_cons_of_mem _ hb)) hl h
theorem lc_list {α β : Type} {g : D → Env → (Env → Prop) → Prop} {mt : GMT} {md : GMD} {ρ : Env} {P : List D → Prop} (e : α → D) (p : α → Bool) (q : β → D) (f : α → β) (as : List α) (acc : List D)
    (H : ∀ a ∈ as, ∀ (Pt : D → Prop) (Pf : Prop), (if p a = true then Pt (q (f a)) else Pf) → g (e a) ρ fun ρ1 => mt ρ1 fun b => if b = true then md ρ1 Pt else Pf) (hl : acc.length + as.length ≤ sizeLine) (h : P (acc ++ ((as.filter p).map f).map q)) : mLcL g mt md (as.map e) ρ acc P :=
  lc_listF e p q f as acc H (by have := List.length_filter_le p as; omega) h
/-- a list or a tuple handed in -/
inductive Sq : Z → List D → Prop
  | b (xs : List D) : Sq (.bor false xs) xs
  | t (xs : List D) : Sq (.d (.tup xs)) xs
  | l (xs : List D) : Sq (.d (.lst xs)) xs
theorem Sq.seq {z : Z} {xs : List D} (h : Sq z xs) : ∃ t, z.seq = some (t, xs) := by cases h <;> exact ⟨_, rfl⟩
theorem Sq.var {z : Z} {xs : List D} (h : Sq z xs) : ∃ g, z.toG = some g ∧ g.z = some z := by cases h <;> exact ⟨_, rfl, rfl⟩
theorem small {n : Nat} (h : n ≤ 1000000) : n ≤ sizeLine := Nat.le_trans h (by decide)
/-! ### the program's types -/
theorem kit_list : ∀ K : PySem.W.Frag, kitAny K (.type "list") [.type "list", .type "tuple"] = some true := fun K => kitAny_cons (b := true) (kit_ty (by decide +kernel)) (fun h => nomatch h) fun _ => rfl
theorem kit_tuple : ∀ K : PySem.W.Frag, kitAny K (.type "tuple") [.type "list", .type "tuple"] = some true := fun K => kitAny_cons (b := false) (kit_ty (by decide +kernel)) (fun _ => kitAny_cons (b := true) (kit_ty (by decide +kernel)) (fun h => nomatch h) fun _ => rfl) fun h => nomatch h
theorem noC {K : PySem.W.Frag} {x : String} : ∀ C, Value.type x = .ref C → ClsFacts K C := fun _ h => nomatch h
theorem kit_self (K : PySem.W.Frag) (v : Value) : kitOne K v v = some true := by
  unfold kitOne
  rw [if_pos (beq_self_eq_true v)]
section
variable {A B : Prop} {P : Z → Prop} {i j : Int}
theorem fLe_if (h : i ≤ j) (a : A) : fLe (.d (.int i)) (.d (.int j)) (fun z => ∃ k, z = .d (.bl k) ∧ if k = true then A else B) := ⟨i, j, rfl, rfl, _, rfl, by rw [if_pos (decide_eq_true h)]; exact a⟩
theorem len_txt {x : Str} (h : x.length ≤ sizeLine) (p : P (.d (.int x.length))) : fLen [.d (.str x)] P := .inr ⟨x, rfl, h, p⟩
theorem len_seq {z : Z} {xs : List D} (h : ∃ t, z.seq = some (t, xs)) (p : P (.d (.int xs.length))) : fLen [z] P := let ⟨t, e⟩ := h; .inl ⟨z, t, xs, rfl, e, p⟩
theorem fEq_of {x y : Z} {a b : D} {n m : Nat} {neg : Bool} (ex : x.cont = some a) (ey : y.cont = some b) (na : Nice n a) (nb : Nice m b) (c : Bool) (hc : PyData.eqv a.py b.py = c) (hn : n ≤ 64 := by decide) (hm : m ≤ 64 := by decide) (p : P (.d (.bl (if neg then !c else c)))) : fEq neg x y P :=
  ⟨a, b, ex, ey, na.ok hn, nb.ok hm, by rw [hc]; exact p⟩
end
section
variable {K : PySem.W.Frag} {C : Addr} {zs : List Z} {P : Z → Prop}
def S_is_list : Spc := fun zs P => ∃ z xs, zs = [z] ∧ Sq z xs ∧ P (.d (.bl true))
theorem r_is_list (h : S_is_list zs P) : m_is_list K C { nx := fun _ => P (.d .non), rt := P } (startG N_is_list zs) := by
  obtain ⟨z, xs, rfl, sq, p⟩ := h
  cases sq with
  | b => exact ⟨_, _, rfl, rfl, .type "list", true, rfl, noC, kit_list K, p⟩
  | t => exact ⟨_, _, rfl, rfl, .type "tuple", true, rfl, noC, kit_tuple K, p⟩
  | l => exact ⟨_, _, rfl, rfl, .type "list", true, rfl, noC, kit_list K, p⟩
def S_is_name : Spc := fun zs P => ∃ x, zs = [.d (.str x)] ∧ OkN x ∧ P (.d (.bl true))
theorem all_true {α : Type} (xs : List α) : ((xs.filter fun _ => true).map fun _ => true).all id = true := by simp
theorem var_at {ρ : Env} {i : Nat} {g : G} {z : Z} {P : Z → Prop} (h : ρ[i]? = some (some g)) (e : g.z = some z) (p : P z) : mVar i ρ P := ⟨g, z, h, e, p⟩
theorem r_is_name (h : S_is_name zs P) : m_is_name K C { nx := fun _ => P (.d .non), rt := P } (startG N_is_name zs) := by
  obtain ⟨x, rfl, ok, p⟩ := h
  have h1 := ok.pos
  have h2 := ok.six
  have hl : x.cps.toList.length = x.length := by simp [Str.length]
  dsimp only [m_is_name, mRet, mSeq, mIf, mSet, mSetO, mCB, mACons, mANil, mOp, mC, mCall, mDrop, mTst, mTru, mNot, mAnd, mOr, mAndV, mOrV, mNotV, mIfE, mLst, mTup, mLCons, mLNil, mDat, mNext, mChain, mIsi, mIsi2, mLc, mLc2, mWalk, mWalkD, mWalkS, mRng1, mRng2, mgN, mgT, mgCons, mgNil, mAsg, mFld, mProp, mMeth, mLenSet, mSortLR, mDGet, mDisp, mApp, mExt, mFor, mRetO, mPar2, mSto, mCallR, mFldS, mNever, mYes, mLenScr, mAs, mDrI, mDrS, mCells, mWalkScr, mDrPop, mAppPop, mSl, mOSome, mONone, mRev, mJoin, mFrz, mCallO, mSetCD, mDGetO, mDPutO, mFrzD, mAsgPop, mCallF, mSetF, mPar2F, mAppF, mAppF1, mBest, mIsi2V, mRng3, mReprL, mIndex, mAppT]
  refine var_at rfl rfl ⟨.type "str", true, rfl, noC, kit_self K _, true, rfl, ?_⟩
  rw [if_pos rfl]
  refine var_at rfl rfl (len_txt (small (by omega)) (fLe_if (by omega) (fLe_if (by omega) ?_)))
  refine var_at rfl rfl ⟨x, rfl, ?_⟩
  refine lc_list (fun c : Nat => D.str ⟨#[c]⟩) (fun _ => true) D.bl (fun _ => true) x.cps.toList [] (fun c hc Pt Pf h => ?_) (by rw [hl]; exact small (by simp; omega)) ?_
  · exact var_at rfl rfl ⟨c, _, rfl, rfl, _, rfl, by rw [if_neg (by decide)]; rw [show decide (c ∈ ("abcdefghijklmnopqrstuvwxyz" : Str).cps.toList) = true from decide_eq_true (ok.az c hc)]; exact h⟩
  · refine ⟨_, _, rfl, rfl, ?_⟩
    rw [all_true]
    exact p
/-- what a web's parties are -/
structure OkPs (ps : List Str) : Prop where
  two : 2 ≤ ps.length
  six : ps.length ≤ 6
  nm : ∀ x ∈ ps, OkN x
  nd : ps.Nodup
def S_are_parties : Spc := fun zs P => ∃ z ps, zs = [z] ∧ Sq z (ps.map D.str) ∧ OkPs ps ∧ P (.d (.bl true))
theorem Sq.arg {z : Z} {xs : List D} (h : Sq z xs) : Sq z.arg xs := by cases h <;> constructor
theorem r_are_parties (h : S_are_parties zs P) : m_are_parties K C S_is_list S_is_name { nx := fun _ => P (.d .non), rt := P } (startG N_are_parties zs) := by
  obtain ⟨z, ps, rfl, sq, ok, p⟩ := h
  have h1 := ok.two
  have h2 := ok.six
  have v0 : ∀ {P : Z → Prop}, P z → mVar 0 (startG N_are_parties [z]) P := by
    obtain ⟨g, eg, gz⟩ := sq.var
    exact fun q => var_at (by show some z.toG = _; rw [eg]) gz q
  dsimp only [m_are_parties, mRet, mSeq, mIf, mSet, mSetO, mCB, mACons, mANil, mOp, mC, mCall, mDrop, mTst, mTru, mNot, mAnd, mOr, mAndV, mOrV, mNotV, mIfE, mLst, mTup, mLCons, mLNil, mDat, mNext, mChain, mIsi, mIsi2, mLc, mLc2, mWalk, mWalkD, mWalkS, mRng1, mRng2, mgN, mgT, mgCons, mgNil, mAsg, mFld, mProp, mMeth, mLenSet, mSortLR, mDGet, mDisp, mApp, mExt, mFor, mRetO, mPar2, mSto, mCallR, mFldS, mNever, mYes, mLenScr, mAs, mDrI, mDrS, mCells, mWalkScr, mDrPop, mAppPop, mSl, mOSome, mONone, mRev, mJoin, mFrz, mCallO, mSetCD, mDGetO, mDPutO, mFrzD, mAsgPop, mCallF, mSetF, mPar2F, mAppF, mAppF1, mBest, mIsi2V, mRng3, mReprL, mIndex, mAppT]
  refine v0 ⟨z.arg, ps.map D.str, rfl, sq.arg, true, rfl, ?_⟩
  rw [if_neg (by decide)]
  refine v0 (len_seq sq.seq (fLe_if (by rw [List.length_map]; omega) ⟨_, _, rfl, rfl, _, rfl, ?_⟩))
  rw [decide_eq_true (by rw [List.length_map]; omega), if_neg (by decide)]
  obtain ⟨t, et⟩ := sq.seq
  refine v0 ⟨t, _, et, ?_⟩
  refine lc_list D.str (fun _ => true) D.bl (fun _ => true) ps [] (fun x hx Pt Pf h => ?_) (small (by simp; omega)) ?_
  · exact var_at rfl rfl ⟨x, rfl, ok.nm x hx, _, rfl, h⟩
  · refine ⟨_, _, rfl, rfl, _, rfl, ?_⟩
    rw [all_true, if_pos rfl]
    refine v0 ⟨t, _, et, .inl ⟨ps, rfl, ok.nd, by omega⟩, v0 (len_seq ⟨t, et⟩ ?_)⟩
    refine fEq_of rfl rfl (Nice.int (by simp; omega)) (Nice.int (by simp; omega)) true (by rw [eqv_int, decide_eq_true rfl]) (p := p)
/-- a handing between ps -/
structure OkH (ps : List Str) (h : Str × Str) : Prop where
  a : h.1 ∈ ps
  b : h.2 ∈ ps
  ne : h.1 ≠ h.2
def S_is_handing : Spc := fun zs P => ∃ h z ps, zs = [.d (hD h), z] ∧ Sq z (ps.map D.str) ∧ OkPs ps ∧ OkH ps h ∧ P (.d (.bl true))
theorem in_strs {z : Z} {ps : List Str} {x : Str} {P : Z → Prop} (hx : OkN x) (hp : ∀ y ∈ ps, OkN y) (sq : ∃ t, z.seq = some (t, ps.map D.str)) (c : Bool) (hc : decide (x ∈ ps) = c) (neg : Bool) (p : P (.d (.bl (if neg then !c else c)))) : fIn neg (.d (.str x)) z P := by
  obtain ⟨t, e⟩ := sq
  refine ⟨.str x, t, _, rfl, e, hx.nice.ok (by decide), (Nice.lst (n := 0) fun d hd => ?_).ok (by decide), ?_⟩
  · obtain ⟨y, hy, rfl⟩ := List.mem_map.mp hd
    exact (hp y hy).nice
  · rw [any_strs, hc]
    exact p
theorem r_is_handing (h : S_is_handing zs P) : m_is_handing K C { nx := fun _ => P (.d .non), rt := P } (startG N_is_handing zs) := by
  obtain ⟨⟨a, b⟩, z, ps, rfl, sq, ok, hh, p⟩ := h
  have v1 : ∀ {x y : Option G} {P : Z → Prop}, P z → mVar 1 [some (.d (hD (a, b))), z.toG, x, y] P := by
    obtain ⟨g, eg, gz⟩ := sq.var
    exact fun q => var_at (by show some z.toG = _; rw [eg]) gz q
  dsimp only [m_is_handing, mRet, mSeq, mIf, mSet, mSetO, mCB, mACons, mANil, mOp, mC, mCall, mDrop, mTst, mTru, mNot, mAnd, mOr, mAndV, mOrV, mNotV, mIfE, mLst, mTup, mLCons, mLNil, mDat, mNext, mChain, mIsi, mIsi2, mLc, mLc2, mWalk, mWalkD, mWalkS, mRng1, mRng2, mgN, mgT, mgCons, mgNil, mAsg, mFld, mProp, mMeth, mLenSet, mSortLR, mDGet, mDisp, mApp, mExt, mFor, mRetO, mPar2, mSto, mCallR, mFldS, mNever, mYes, mLenScr, mAs, mDrI, mDrS, mCells, mWalkScr, mDrPop, mAppPop, mSl, mOSome, mONone, mRev, mJoin, mFrz, mCallO, mSetCD, mDGetO, mDPutO, mFrzD, mAsgPop, mCallF, mSetF, mPar2F, mAppF, mAppF1, mBest, mIsi2V, mRng3, mReprL, mIndex, mAppT]
  refine var_at rfl rfl ⟨.type "tuple", true, rfl, noC, kit_self K _, true, rfl, ?_⟩
  rw [if_neg (by decide)]
  refine var_at rfl rfl (len_seq ⟨_, rfl⟩ ?_)
  refine fEq_of rfl rfl (Nice.int (i := 2) (by decide)) (Nice.int (i := 2) (by decide)) true rfl (p := ⟨_, rfl, ?_⟩)
  rw [if_neg (by decide)]
  refine var_at rfl rfl ⟨_, rfl, _, rfl, rfl, _, _, rfl, _, _, rfl, rfl, ?_⟩
  refine var_at rfl rfl (v1 (in_strs (ok.nm _ hh.a) ok.nm sq.seq true (decide_eq_true hh.a) false ⟨_, rfl, ?_⟩))
  rw [if_pos (by decide)]
  refine var_at rfl rfl (v1 (in_strs (ok.nm _ hh.b) ok.nm sq.seq true (decide_eq_true hh.b) false ⟨_, rfl, ?_⟩))
  rw [if_pos (by decide)]
  refine var_at rfl rfl (var_at rfl rfl (fEq_of rfl rfl (ok.nm _ hh.a).nice (ok.nm _ hh.b).nice false (by rw [eqv_str]; exact decide_eq_false hh.ne) (p := p)))
/-- a web's handings -/
structure OkHs (ps : List Str) (hs : List (Str × Str)) : Prop where
  one : 1 ≤ hs.length
  twelve : hs.length ≤ 12
  ok : ∀ h ∈ hs, OkH ps h
  nd : hs.Nodup
def S_are_handings : Spc := fun zs P => ∃ z z2 hs ps, zs = [z, z2] ∧ Sq z (hs.map hD) ∧ Sq z2 (ps.map D.str) ∧ OkPs ps ∧ OkHs ps hs ∧ P (.d (.bl true))
theorem dkeys_hs {hs : List (Str × Str)} (nd : hs.Nodup) (hl : hs.length < 64) : DKeys (hs.map hD) := by
  refine .inr ⟨hs.map fun h => [h.1, h.2], by rw [List.map_map]; rfl, ?_, by simpa using hl⟩
  refine List.Pairwise.map _ (fun x y ne e => ne ?_) nd
  obtain ⟨a, b⟩ := x
  obtain ⟨c, d⟩ := y
  simp only [List.cons.injEq, and_true] at e
  rw [e.1, e.2]
theorem r_are_handings (h : S_are_handings zs P) : m_are_handings K C S_is_handing S_is_list { nx := fun _ => P (.d .non), rt := P } (startG N_are_handings zs) := by
  obtain ⟨z, z2, hs, ps, rfl, sq, sq2, okp, ok, p⟩ := h
  have h1 := ok.one
  have h2 := ok.twelve
  have v0 : ∀ {P : Z → Prop}, P z → mVar 0 (startG N_are_handings [z, z2]) P := by
    obtain ⟨g, eg, gz⟩ := sq.var
    exact fun q => var_at (by show some z.toG = _; rw [eg]) gz q
  have v1 : ∀ {x : Option G} {P : Z → Prop}, P z2 → mVar 1 [z.toG, z2.toG, x] P := by
    obtain ⟨g, eg, gz⟩ := sq2.var
    exact fun q => var_at (by show some z2.toG = _; rw [eg]) gz q
  obtain ⟨t, et⟩ := sq.seq
  dsimp only [m_are_handings, mRet, mSeq, mIf, mSet, mSetO, mCB, mACons, mANil, mOp, mC, mCall, mDrop, mTst, mTru, mNot, mAnd, mOr, mAndV, mOrV, mNotV, mIfE, mLst, mTup, mLCons, mLNil, mDat, mNext, mChain, mIsi, mIsi2, mLc, mLc2, mWalk, mWalkD, mWalkS, mRng1, mRng2, mgN, mgT, mgCons, mgNil, mAsg, mFld, mProp, mMeth, mLenSet, mSortLR, mDGet, mDisp, mApp, mExt, mFor, mRetO, mPar2, mSto, mCallR, mFldS, mNever, mYes, mLenScr, mAs, mDrI, mDrS, mCells, mWalkScr, mDrPop, mAppPop, mSl, mOSome, mONone, mRev, mJoin, mFrz, mCallO, mSetCD, mDGetO, mDPutO, mFrzD, mAsgPop, mCallF, mSetF, mPar2F, mAppF, mAppF1, mBest, mIsi2V, mRng3, mReprL, mIndex, mAppT]
  refine v0 ⟨z.arg, hs.map hD, rfl, sq.arg, true, rfl, ?_⟩
  rw [if_neg (by decide)]
  refine v0 (len_seq sq.seq (fLe_if (by rw [List.length_map]; omega) ⟨_, _, rfl, rfl, _, rfl, ?_⟩))
  rw [decide_eq_true (by rw [List.length_map]; omega), if_neg (by decide)]
  refine v0 ⟨t, _, et, ?_⟩
  refine lc_list hD (fun _ => true) D.bl (fun _ => true) hs [] (fun x hx Pt Pf h => ?_) (small (by simp; omega)) ?_
  · exact var_at rfl rfl (v1 ⟨x, z2.arg, ps, rfl, sq2.arg, okp, ok.ok x hx, _, rfl, h⟩)
  · refine ⟨_, _, rfl, rfl, _, rfl, ?_⟩
    rw [all_true, if_pos rfl]
    refine v0 ⟨t, _, et, dkeys_hs ok.nd (by omega), v0 (len_seq ⟨t, et⟩ ?_)⟩
    refine fEq_of rfl rfl (Nice.int (by simp; omega)) (Nice.int (by simp; omega)) true (by rw [eqv_int, decide_eq_true rfl]) (p := p)
/-- a web -/
def webD (C : Addr) (ps : List Str) (hs : List (Str × Str)) : D := .obj C ["_parties", "_handings"] [tupS ps, .tup (hs.map hD)]
def S_Web (C : Addr) : Spc := fun zs P => ∃ z z2 ps hs, zs = [z, z2] ∧ Sq z (ps.map D.str) ∧ Sq z2 (hs.map hD) ∧ OkPs ps ∧ OkHs ps hs ∧ P (.d (webD C (sortN ps) (sortH hs)))
theorem alike_all_strs (xs : List Str) : AllAlike (D.pys (xs.map D.str)) := by
  rw [pys_strs]
  intro d hd d' hd'
  obtain ⟨x, _, rfl⟩ := List.mem_map.mp hd
  obtain ⟨y, _, rfl⟩ := List.mem_map.mp hd'
  simp [alike]
theorem pys_hDs (hs : List (Str × Str)) : D.pys (hs.map hD) = hs.map fun h => .tuple [.str h.1, .str h.2] := by
  rw [D.pys_eq, List.map_map]
  exact List.map_congr_left fun x _ => tupS_py _
theorem alike_all_hDs (hs : List (Str × Str)) : AllAlike (D.pys (hs.map hD)) := by
  rw [pys_hDs]
  intro d hd d' hd'
  obtain ⟨x, _, rfl⟩ := List.mem_map.mp hd
  obtain ⟨y, _, rfl⟩ := List.mem_map.mp hd'
  simp [alike, alikeAll]
theorem sorted_strs {z : Z} {ps : List Str} {P : Z → Prop} (sq : ∃ t, z.seq = some (t, ps.map D.str)) (ok : ∀ x ∈ ps, OkN x) (p : P (.own ((sortN ps).map D.str))) : fSorted [z] P := by
  obtain ⟨t, e⟩ := sq
  refine ⟨z, t, _, rfl, e, ?_, alike_all_strs ps, .inr ?_, ?_, ?_⟩
  · rw [D.plains_eq, List.all_map]
    exact List.all_eq_true.mpr fun x hx => (ok x hx).nice.plain
  · rw [pys_strs]
    intro d hd
    obtain ⟨x, _, rfl⟩ := List.mem_map.mp hd
    exact ⟨nofun, fun _ => nofun⟩
  · intro d hd
    obtain ⟨x, hx, rfl⟩ := List.mem_map.mp hd
    exact Nat.le_trans (ok x hx).nice.dep (by decide)
  · rw [map_sortN]
    exact p
theorem OkH.nice {ps : List Str} {h : Str × Str} (o : OkH ps h) (ok : ∀ x ∈ ps, OkN x) : Nice 1 (hD h) := nice_tupS fun y hy => by
  rcases List.mem_cons.mp hy with rfl | hy
  · exact ok _ o.a
  · rw [List.mem_singleton.mp hy]; exact ok _ o.b
theorem sorted_hDs {z : Z} {ps : List Str} {hs : List (Str × Str)} {P : Z → Prop} (sq : ∃ t, z.seq = some (t, hs.map hD)) (ok : ∀ x ∈ ps, OkN x) (oh : ∀ h ∈ hs, OkH ps h) (p : P (.own ((sortH hs).map hD))) : fSorted [z] P := by
  obtain ⟨t, e⟩ := sq
  refine ⟨z, t, _, rfl, e, ?_, alike_all_hDs hs, .inl ?_, ?_, ?_⟩
  · rw [D.plains_eq, List.all_map]
    exact List.all_eq_true.mpr fun x hx => ((oh x hx).nice ok).plain
  · rw [pys_hDs]
    intro d hd
    obtain ⟨x, _, rfl⟩ := List.mem_map.mp hd
    exact ⟨_, _, rfl⟩
  · intro d hd
    obtain ⟨x, hx, rfl⟩ := List.mem_map.mp hd
    exact Nat.le_trans ((oh x hx).nice ok).dep (by decide)
  · rw [map_sortH]
    exact p
theorem r_init {a : Addr} (h : S_Web C zs P) : m_W___init__ K C S_are_handings S_are_parties { nx := fun ρ => ∃ ns xs, ρ[0]? = some (some (.mk a C ns xs)) ∧ P (.d (.obj C ns xs)), rt := fun _ => False } (startM N_W___init__ a C zs) := by
  obtain ⟨z, z2, ps, hs, rfl, sq, sq2, okp, ok, p⟩ := h
  have v1 : ∀ {x y : Option G} {P : Z → Prop}, P z → mVar 1 [x, z.toG, y] P := by
    obtain ⟨g, eg, gz⟩ := sq.var
    exact fun q => var_at (by show some z.toG = _; rw [eg]) gz q
  have v2 : ∀ {x y : Option G} {P : Z → Prop}, P z2 → mVar 2 [x, y, z2.toG] P := by
    obtain ⟨g, eg, gz⟩ := sq2.var
    exact fun q => var_at (by show some z2.toG = _; rw [eg]) gz q
  have n1 : ∀ (ns' : List Str) (xs' : List D) (a' C' : Addr), z.toG ≠ some (.mk a' C' ns' xs') := by cases sq <;> exact fun _ _ _ _ => nofun
  have n2 : ∀ (ns' : List Str) (xs' : List D) (a' C' : Addr), z2.toG ≠ some (.mk a' C' ns' xs') := by cases sq2 <;> exact fun _ _ _ _ => nofun
  have only : ∀ (w : Option G) (j : Nat) (ns' : List Str) (xs' : List D) (a' C' : Addr), 0 ≠ j → [w, z.toG, z2.toG][j]? ≠ some (some (G.mk a' C' ns' xs')) := by
    intro w j ns' xs' a' C' hj e
    match j, hj with
    | 1, _ => exact n1 ns' xs' a' C' (Option.some.inj e)
    | 2, _ => exact n2 ns' xs' a' C' (Option.some.inj e)
    | j + 3, _ => simp at e
  dsimp only [m_W___init__, mRet, mSeq, mIf, mSet, mSetO, mCB, mACons, mANil, mOp, mC, mCall, mDrop, mTst, mTru, mNot, mAnd, mOr, mAndV, mOrV, mNotV, mIfE, mLst, mTup, mLCons, mLNil, mDat, mNext, mChain, mIsi, mIsi2, mLc, mLc2, mWalk, mWalkD, mWalkS, mRng1, mRng2, mgN, mgT, mgCons, mgNil, mAsg, mFld, mProp, mMeth, mLenSet, mSortLR, mDGet, mDisp, mApp, mExt, mFor, mRetO, mPar2, mSto, mCallR, mFldS, mNever, mYes, mLenScr, mAs, mDrI, mDrS, mCells, mWalkScr, mDrPop, mAppPop, mSl, mOSome, mONone, mRev, mJoin, mFrz, mCallO, mSetCD, mDGetO, mDPutO, mFrzD, mAsgPop, mCallF, mSetF, mPar2F, mAppF, mAppF1, mBest, mIsi2V, mRng3, mReprL, mIndex, mAppT]
  refine v1 ⟨z.arg, ps, rfl, sq.arg, okp, true, rfl, ?_⟩
  rw [if_neg (by decide)]
  refine v2 (v1 ⟨z2.arg, z.arg, hs, ps, rfl, sq2.arg, sq.arg, okp, ok, true, rfl, ?_⟩)
  rw [if_neg (by decide)]
  refine ⟨a, [], [], rfl, only _, by simp, by decide, ?_⟩
  refine v1 (sorted_strs sq.seq okp.nm (.inl ⟨_, _, rfl, rfl, _, rfl, ?_⟩))
  refine ⟨a, ["_parties"], _, rfl, only _, by decide +kernel, by decide, ?_⟩
  refine v2 (sorted_hDs sq2.seq okp.nm ok.ok (.inl ⟨_, _, rfl, rfl, _, rfl, ?_⟩))
  exact ⟨_, _, rfl, p⟩
end
end GL
end
section
set_option linter.all false
set_option maxRecDepth 100000
set_option maxHeartbeats 4000000
/-! V04m: ways, as lists. -/
namespace GL
open PySem L2 PySem.W PyProof.Rows
/-! ### ways -/
def lastS (w : List Str) : Str := w.getLastD Str.empty
theorem lastS_snoc (w : List Str) (x : Str) : lastS (w ++ [x]) = x := by simp [lastS]
theorem split_last {w : List Str} (h : w ≠ []) : w = w.dropLast ++ [lastS w] := by
  cases w with
  | nil => exact absurd rfl h
  | cons b l => exact (List.dropLast_concat_getLast h).symm
theorem lastS_mem {w : List Str} (h : w ≠ []) : lastS w ∈ w := by
  have : lastS w ∈ w.dropLast ++ [lastS w] := List.mem_append_right _ List.mem_cons_self
  rwa [← split_last h] at this
def nexts (hs : List (Str × Str)) (a : Str) : List Str := (hs.filter fun h => decide (h.1 = a)).map (·.2)
def grow (hs : List (Str × Str)) (w : List Str) : List (List Str) := ((nexts hs (lastS w)).filter fun x => decide (x ∉ w)).map fun x => w ++ [x]
def level (hs : List (Str × Str)) (a : Str) : Nat → List (List Str)
  | 0 => [[a]]
  | n + 1 => (level hs a n).flatMap (grow hs)
def allWays (hs : List (Str × Str)) (a : Str) : List (List Str) := (List.range 6).flatMap (level hs a)
theorem mem_grow {hs : List (Str × Str)} {w v : List Str} (h : v ∈ grow hs w) : ∃ x, v = w ++ [x] ∧ x ∉ w ∧ (lastS w, x) ∈ hs := by
  obtain ⟨x, hx, rfl⟩ := List.mem_map.mp h
  obtain ⟨h1, h2⟩ := List.mem_filter.mp hx
  obtain ⟨⟨a, b⟩, h3, rfl⟩ := List.mem_map.mp h1
  obtain ⟨h4, h5⟩ := List.mem_filter.mp h3
  have e : a = lastS w := of_decide_eq_true h5
  exact ⟨b, rfl, of_decide_eq_true h2, by rw [← e]; exact h4⟩
/-- what a way is -/
structure WayOk (ps : List Str) (a : Str) (n : Nat) (w : List Str) : Prop where
  len : w.length = n + 1
  nd : w.Nodup
  sub : ∀ x ∈ w, x ∈ ps
  hd : w.head? = some a
theorem WayOk.ne {ps : List Str} {a : Str} {n : Nat} {w : List Str} (h : WayOk ps a n w) : w ≠ [] := by
  rintro rfl
  have := h.len
  simp at this
theorem level_ok {ps : List Str} {hs : List (Str × Str)} {a : Str} (ha : a ∈ ps) (ok : ∀ h ∈ hs, OkH ps h) : ∀ (n : Nat) (w : List Str), w ∈ level hs a n → WayOk ps a n w
  | 0, w, h => by
    obtain rfl : w = [a] := by simpa [level] using h
    exact ⟨rfl, by simp, fun x hx => by rw [List.mem_singleton.mp hx]; exact ha, rfl⟩
  | n + 1, w, h => by
    obtain ⟨v, hv, hw⟩ := List.mem_flatMap.mp h
    obtain ⟨x, rfl, hx, hh⟩ := mem_grow hw
    have o := level_ok ha ok n v hv
    refine ⟨by rw [List.length_append, o.len]; rfl, ?_, fun y hy => ?_, ?_⟩
    · rw [List.nodup_append]
      refine ⟨o.nd, by simp, fun y hy z hz e => hx ?_⟩
      rw [← List.mem_singleton.mp hz, ← e]
      exact hy
    · rcases List.mem_append.mp hy with z | z
      · exact o.sub y z
      · rw [List.mem_singleton.mp z]; exact (ok _ hh).b
    · have := o.hd
      cases v with
      | nil => cases this
      | cons u v => exact this
theorem nodup_sub_len {α : Type} [DecidableEq α] : ∀ {xs ys : List α}, xs.Nodup → (∀ x ∈ xs, x ∈ ys) → xs.length ≤ ys.length
  | [], _, _, _ => Nat.zero_le _
  | x :: xs, ys, nd, sub => by
    have hx := sub x List.mem_cons_self
    have nd' := List.nodup_cons.mp nd
    have := nodup_sub_len (ys := ys.erase x) nd'.2 fun y hy => (List.mem_erase_of_ne (fun e => nd'.1 (by rw [← e]; exact hy))).mpr (sub y (List.mem_cons_of_mem _ hy))
    rw [List.length_erase_of_mem hx] at this
    have : 0 < ys.length := List.length_pos_of_mem hx
    simp only [List.length_cons]
    omega
theorem level_end {ps : List Str} {hs : List (Str × Str)} {a : Str} (ha : a ∈ ps) (ok : ∀ h ∈ hs, OkH ps h) (h6 : ps.length ≤ 6) {n : Nat} (hn : 6 ≤ n) : level hs a n = [] := by
  cases h : level hs a n with
  | nil => rfl
  | cons w r =>
    have o := level_ok ha ok n w (by rw [h]; exact List.mem_cons_self)
    have := nodup_sub_len o.nd o.sub
    rw [o.len] at this
    omega
theorem nexts_len {ps : List Str} {hs : List (Str × Str)} (okh : OkHs ps hs) (a : Str) : (nexts hs a).length ≤ ps.length := by
  refine nodup_sub_len ?_ fun x hx => ?_
  · unfold nexts
    refine List.pairwise_map.mpr (List.Pairwise.imp_of_mem ?_ (List.Pairwise.filter _ okh.nd))
    intro x y hx hy ne e
    obtain ⟨_, h1⟩ := List.mem_filter.mp hx
    obtain ⟨_, h2⟩ := List.mem_filter.mp hy
    have e1 : x.1 = a := of_decide_eq_true h1
    have e2 : y.1 = a := of_decide_eq_true h2
    exact ne (Prod.ext (e1.trans e2.symm) e)
  · obtain ⟨h, hh, rfl⟩ := List.mem_map.mp hx
    exact (okh.ok h (List.mem_filter.mp hh).1).b
theorem grow_len {ps : List Str} {hs : List (Str × Str)} (okh : OkHs ps hs) (h6 : ps.length ≤ 6) (w : List Str) : (grow hs w).length ≤ 6 := by
  have := nexts_len okh (lastS w)
  have h2 := List.length_filter_le (fun x => decide (x ∉ w)) (nexts hs (lastS w))
  unfold grow
  rw [List.length_map]
  omega
theorem flat_len {α β : Type} {f : α → List β} {k : Nat} : ∀ {xs : List α}, (∀ x ∈ xs, (f x).length ≤ k) → (xs.flatMap f).length ≤ xs.length * k
  | [], _ => by simp
  | x :: xs, h => by
    have h1 := h x List.mem_cons_self
    have h2 := flat_len fun y hy => h y (List.mem_cons_of_mem x hy)
    simp only [List.flatMap_cons, List.length_append, List.length_cons, Nat.add_mul, Nat.one_mul]
    omega
theorem level_len {ps : List Str} {hs : List (Str × Str)} (okh : OkHs ps hs) (h6 : ps.length ≤ 6) (a : Str) : ∀ n, (level hs a n).length ≤ 6 ^ n
  | 0 => by simp [level]
  | n + 1 => by
    have h1 := flat_len (xs := level hs a n) (f := grow hs) (k := 6) fun w _ => grow_len okh h6 w
    have h2 := level_len okh h6 a n
    have h3 : (level hs a n).length * 6 ≤ 6 ^ n * 6 := Nat.mul_le_mul_right 6 h2
    show ((level hs a n).flatMap (grow hs)).length ≤ 6 ^ (n + 1)
    rw [Nat.pow_succ]
    omega
/-- the ways of the first k levels -/
def upTo (hs : List (Str × Str)) (a : Str) (k : Nat) : List (List Str) := (List.range k).flatMap (level hs a)
theorem upTo_succ (hs : List (Str × Str)) (a : Str) (k : Nat) : upTo hs a (k + 1) = upTo hs a k ++ level hs a k := by simp [upTo, List.range_succ]
theorem upTo_len {ps : List Str} {hs : List (Str × Str)} (okh : OkHs ps hs) (h6 : ps.length ≤ 6) (a : Str) : ∀ k, k ≤ 6 → (upTo hs a k).length ≤ 9331
  | k, hk => by
    have : ∀ k, (upTo hs a k).length ≤ ((List.range k).map (6 ^ ·)).sum := by
      intro k
      induction k with
      | zero => simp [upTo]
      | succ k ih =>
        rw [upTo_succ, List.length_append, List.range_succ, List.map_append, List.sum_append]
        have := level_len okh h6 a k
        simp
        omega
    refine Nat.le_trans (this k) ?_
    have : ∀ k, k ≤ 6 → ((List.range k).map (6 ^ ·)).sum ≤ 9331 := by decide
    exact this k hk
theorem upTo_end {hs : List (Str × Str)} {a : Str} {k : Nat} (h : level hs a k = []) : ∀ n, upTo hs a (k + n) = upTo hs a k
  | 0 => rfl
  | n + 1 => by
    have e : ∀ m, level hs a (k + m) = [] := by
      intro m
      induction m with
      | zero => exact h
      | succ m ih => show (level hs a (k + m)).flatMap (grow hs) = []; rw [ih]; rfl
    rw [← Nat.add_assoc, upTo_succ, upTo_end h n, e n, List.append_nil]
theorem upTo_all {hs : List (Str × Str)} {a : Str} {k : Nat} (hk : k ≤ 6) (h : level hs a k = []) : upTo hs a k = allWays hs a := by
  have := upTo_end h (6 - k)
  rw [Nat.add_sub_cancel' hk] at this
  exact this.symm
/-! ### the law's lines -/
def lline (hs : List (Str × Str)) (a g : Str) : Nat → List (List Str)
  | 0 => [[a]]
  | n + 1 => (lline hs a g n).flatMap fun w => if lastS w = g then [] else grow hs w
theorem filter_grow (hs : List (Str × Str)) (g : Str) (w : List Str) : (grow hs w).filter (fun v => decide (g ∉ v.dropLast)) = if g ∈ w then [] else grow hs w := by
  unfold grow
  rw [List.filter_map]
  have e : ((fun v : List Str => decide (g ∉ v.dropLast)) ∘ fun x => w ++ [x]) = fun _ => decide (g ∉ w) := by
    funext x
    simp
  rw [e]
  by_cases h : g ∈ w
  · rw [if_pos h]
    simp [h]
  · rw [if_neg h]
    simp [h]
theorem filter_flatMap {α β : Type} (p : β → Bool) (f : α → List β) : ∀ xs : List α, (xs.flatMap f).filter p = xs.flatMap fun x => (f x).filter p
  | [] => rfl
  | x :: xs => by rw [List.flatMap_cons, List.filter_append, filter_flatMap p f xs, List.flatMap_cons]
theorem flatMap_filter {α β : Type} (p : α → Bool) (f : α → List β) : ∀ xs : List α, (xs.filter p).flatMap f = xs.flatMap fun x => if p x = true then f x else []
  | [] => rfl
  | x :: xs => by
    by_cases h : p x = true
    · rw [List.filter_cons_of_pos h, List.flatMap_cons, flatMap_filter p f xs, List.flatMap_cons, if_pos h]
    · rw [List.filter_cons_of_neg h, flatMap_filter p f xs, List.flatMap_cons, if_neg h]; rfl
theorem flatMap_congr' {α β : Type} {f g : α → List β} : ∀ {xs : List α}, (∀ x ∈ xs, f x = g x) → xs.flatMap f = xs.flatMap g
  | [], _ => rfl
  | x :: xs, h => by rw [List.flatMap_cons, List.flatMap_cons, h x List.mem_cons_self, flatMap_congr' fun y hy => h y (List.mem_cons_of_mem _ hy)]
theorem lline_eq {ps : List Str} {hs : List (Str × Str)} {a g : Str} (ha : a ∈ ps) (ok : ∀ h ∈ hs, OkH ps h) : ∀ n, lline hs a g n = (level hs a n).filter fun w => decide (g ∉ w.dropLast)
  | 0 => by simp [lline, level]
  | n + 1 => by
    rw [lline, lline_eq ha ok n, level, filter_flatMap, flatMap_filter]
    refine flatMap_congr' fun w hw => ?_
    rw [filter_grow]
    have o := level_ok ha ok n w hw
    have e := split_last o.ne
    by_cases h : g ∈ w.dropLast
    · have : g ∈ w := by rw [e]; exact List.mem_append_left _ h
      simp [h, this]
    · by_cases h2 : lastS w = g
      · have : g ∈ w := by rw [e, h2]; exact List.mem_append_right _ List.mem_cons_self
        simp [h, h2, this]
      · have : g ∉ w := by
          rw [e]
          intro q
          rcases List.mem_append.mp q with q | q
          · exact h q
          · exact h2 (List.mem_singleton.mp q).symm
        simp [h, h2, this]
/-- the ways of level n that end at g -/
theorem lline_hit {ps : List Str} {hs : List (Str × Str)} {a g : Str} (ha : a ∈ ps) (ok : ∀ h ∈ hs, OkH ps h) (n : Nat) : (lline hs a g n).filter (fun w => decide (lastS w = g)) = (level hs a n).filter fun w => decide (lastS w = g) := by
  rw [lline_eq ha ok, List.filter_filter]
  refine List.filter_congr fun w hw => ?_
  have o := level_ok ha ok n w hw
  have e := split_last o.ne
  by_cases h : lastS w = g
  · have : g ∉ w.dropLast := by
      have nd := o.nd
      rw [e, List.nodup_append] at nd
      intro q
      exact nd.2.2 g q g (by rw [← h]; exact List.mem_cons_self) rfl
    simp [h, this]
  · simp [h]
def hitsTo (hs : List (Str × Str)) (a g : Str) (k : Nat) : List (List Str) := (upTo hs a k).filter fun w => decide (lastS w = g)
end GL
end
section
set_option linter.all false
set_option maxRecDepth 100000
set_option maxHeartbeats 4000000
namespace GL
open PySem L2 PySem.W PyProof.Rows
variable [TabCx]
theorem lc2_list {α β : Type} {g : D → Env → (Env → Prop) → Prop} {mt : GMT} {mi1 : GML} {g1 : D → Env → (Env → Prop) → Prop} {mt1 : GMT} {md : GMD} {vs1 : List Nat} {ρ : Env} {P : List D → Prop} (e : α → D) (q : β → D) (F : α → List β) : ∀ (as : List α) (acc : List D),
    (∀ a ∈ as, ∀ (acc : List D) (K : List D → Prop) (N : Prop), acc.length + (F a).length ≤ sizeLine → K (acc ++ (F a).map q) → g (e a) ρ fun ρ1 => mt ρ1 fun b => if b = true then mi1 ρ1 fun ys => mLcL g1 mt1 md ys (wipeG ρ1 vs1) acc K else N) →
    acc.length + (as.flatMap F).length ≤ sizeLine → P (acc ++ (as.flatMap F).map q) → mLc2L g mt mi1 g1 mt1 md vs1 (as.map e) ρ acc P
  | [], acc, _, _, h => by
    show P acc
    simpa using h
  | a :: as, acc, H, hl, h => by
    rw [List.flatMap_cons, List.length_append] at hl
    refine H a List.mem_cons_self acc _ _ (by omega) (lc2_list e q F as _ (fun b hb => H b (List.mem_cons_of_mem _ hb)) (by rw [List.length_append, List.length_map]; omega) ?_)
    rw [List.flatMap_cons, List.map_append, ← List.append_assoc] at h
    exact h
theorem atI_lastS {w : List Str} (h : w ≠ []) : atI (w.map D.str) (-1) = some (D.str (lastS w)) := by
  have := atI_last (w.dropLast.map D.str) (D.str (lastS w))
  rw [← List.map_singleton, ← List.map_append, ← split_last h] at this
  exact this
theorem ix_last {w : List Str} {P : Z → Prop} (h : w ≠ []) (p : P (.d (.str (lastS w)))) : fIx (.d (tupS w)) (.d (.int (-1))) P := ⟨_, _, _, _, rfl, rfl, atI_lastS h, p⟩
theorem fld_p {a b : D} : lookF "_parties" ["_parties", "_handings"] [a, b] = some a := if_pos rfl
theorem fld_h {a b : D} : lookF "_handings" ["_parties", "_handings"] [a, b] = some b := by
  have e : ¬ (("_parties" : Str) = "_handings") := by decide +kernel
  show (if ("_parties" : Str) = "_handings" then some a else if ("_handings" : Str) = "_handings" then some b else none) = _
  rw [if_neg e, if_pos rfl]
section
variable {K : PySem.W.Frag} {C : Addr} {zs : List Z} {P : Z → Prop}
def S_parties (C : Addr) : Spc := fun zs P => ∃ ps hs, zs = [.d (webD C ps hs)] ∧ P (.d (tupS ps))
theorem r_parties (h : S_parties C zs P) : m_W_parties K C { nx := fun _ => P (.d .non), rt := P } (startG N_W_parties zs) := by
  obtain ⟨ps, hs, rfl, p⟩ := h
  dsimp only [m_W_parties, mRet, mSeq, mIf, mSet, mSetO, mCB, mACons, mANil, mOp, mC, mCall, mDrop, mTst, mTru, mNot, mAnd, mOr, mAndV, mOrV, mNotV, mIfE, mLst, mTup, mLCons, mLNil, mDat, mNext, mChain, mIsi, mIsi2, mLc, mLc2, mWalk, mWalkD, mWalkS, mRng1, mRng2, mgN, mgT, mgCons, mgNil, mAsg, mFld, mProp, mMeth, mLenSet, mSortLR, mDGet, mDisp, mApp, mExt, mFor, mRetO, mPar2, mSto, mCallR, mFldS, mNever, mYes, mLenScr, mAs, mDrI, mDrS, mCells, mWalkScr, mDrPop, mAppPop, mSl, mOSome, mONone, mRev, mJoin, mFrz, mCallO, mSetCD, mDGetO, mDPutO, mFrzD, mAsgPop, mCallF, mSetF, mPar2F, mAppF, mAppF1, mBest, mIsi2V, mRng3, mReprL, mIndex, mAppT]
  exact var_at rfl rfl ⟨_, rfl, _, _, _, rfl, fld_p, p⟩
def S_check_web (C : Addr) : Spc := fun zs P => ∃ ps hs, zs = [.d (webD C ps hs)] ∧ P (.d .non)
theorem r_check_web (F : ClsFacts K C) (h : S_check_web C zs P) : m_check_web K C { nx := fun _ => P (.d .non), rt := P } (startG N_check_web zs) := by
  obtain ⟨ps, hs, rfl, p⟩ := h
  dsimp only [m_check_web, mRet, mSeq, mIf, mSet, mSetO, mCB, mACons, mANil, mOp, mC, mCall, mDrop, mTst, mTru, mNot, mAnd, mOr, mAndV, mOrV, mNotV, mIfE, mLst, mTup, mLCons, mLNil, mDat, mNext, mChain, mIsi, mIsi2, mLc, mLc2, mWalk, mWalkD, mWalkS, mRng1, mRng2, mgN, mgT, mgCons, mgNil, mAsg, mFld, mProp, mMeth, mLenSet, mSortLR, mDGet, mDisp, mApp, mExt, mFor, mRetO, mPar2, mSto, mCallR, mFldS, mNever, mYes, mLenScr, mAs, mDrI, mDrS, mCells, mWalkScr, mDrPop, mAppPop, mSl, mOSome, mONone, mRev, mJoin, mFrz, mCallO, mSetCD, mDGetO, mDPutO, mFrzD, mAsgPop, mCallF, mSetF, mPar2F, mAppF, mAppF1, mBest, mIsi2V, mRng3, mReprL, mIndex, mAppT]
  refine var_at rfl rfl ⟨.ref C, true, rfl, fun _ e => by cases e; exact F, kit_self K _, true, rfl, ?_⟩
  rw [if_neg (by decide)]
  exact p
def S_check_party (C : Addr) : Spc := fun zs P => ∃ ps hs x, zs = [.d (webD C ps hs), .d (.str x)] ∧ OkPs ps ∧ x ∈ ps ∧ P (.d .non)
theorem r_check_party (h : S_check_party C zs P) : m_check_party K C (S_parties C) { nx := fun _ => P (.d .non), rt := P } (startG N_check_party zs) := by
  obtain ⟨ps, hs, x, rfl, ok, hx, p⟩ := h
  dsimp only [m_check_party, mRet, mSeq, mIf, mSet, mSetO, mCB, mACons, mANil, mOp, mC, mCall, mDrop, mTst, mTru, mNot, mAnd, mOr, mAndV, mOrV, mNotV, mIfE, mLst, mTup, mLCons, mLNil, mDat, mNext, mChain, mIsi, mIsi2, mLc, mLc2, mWalk, mWalkD, mWalkS, mRng1, mRng2, mgN, mgT, mgCons, mgNil, mAsg, mFld, mProp, mMeth, mLenSet, mSortLR, mDGet, mDisp, mApp, mExt, mFor, mRetO, mPar2, mSto, mCallR, mFldS, mNever, mYes, mLenScr, mAs, mDrI, mDrS, mCells, mWalkScr, mDrPop, mAppPop, mSl, mOSome, mONone, mRev, mJoin, mFrz, mCallO, mSetCD, mDGetO, mDPutO, mFrzD, mAsgPop, mCallF, mSetF, mPar2F, mAppF, mAppF1, mBest, mIsi2V, mRng3, mReprL, mIndex, mAppT]
  refine var_at rfl rfl (var_at rfl rfl ⟨_, rfl, _, _, rfl, ps, hs, rfl, in_strs (ok.nm x hx) ok.nm ⟨_, rfl⟩ true (decide_eq_true hx) true ⟨_, rfl, ?_⟩⟩)
  rw [if_neg (by decide)]
  exact p
def S_outs (C : Addr) : Spc := fun zs P => ∃ ps hs x, zs = [.d (webD C ps hs), .d (.str x)] ∧ OkPs ps ∧ OkHs ps hs ∧ x ∈ ps ∧ P (.d (.tup ((hs.filter fun h => decide (h.1 = x)).map hD)))
theorem ix_fst {h : Str × Str} {P : Z → Prop} (p : P (.d (.str h.1))) : fIx (.d (hD h)) (.d (.int 0)) P := ⟨_, _, _, _, rfl, rfl, rfl, p⟩
theorem r_outs (h : S_outs C zs P) : m_W_outs K C (S_check_party C) { nx := fun _ => P (.d .non), rt := P } (startG N_W_outs zs) := by
  obtain ⟨ps, hs, x, rfl, ok, okh, hx, p⟩ := h
  have h2 := okh.twelve
  dsimp only [m_W_outs, mRet, mSeq, mIf, mSet, mSetO, mCB, mACons, mANil, mOp, mC, mCall, mDrop, mTst, mTru, mNot, mAnd, mOr, mAndV, mOrV, mNotV, mIfE, mLst, mTup, mLCons, mLNil, mDat, mNext, mChain, mIsi, mIsi2, mLc, mLc2, mWalk, mWalkD, mWalkS, mRng1, mRng2, mgN, mgT, mgCons, mgNil, mAsg, mFld, mProp, mMeth, mLenSet, mSortLR, mDGet, mDisp, mApp, mExt, mFor, mRetO, mPar2, mSto, mCallR, mFldS, mNever, mYes, mLenScr, mAs, mDrI, mDrS, mCells, mWalkScr, mDrPop, mAppPop, mSl, mOSome, mONone, mRev, mJoin, mFrz, mCallO, mSetCD, mDGetO, mDPutO, mFrzD, mAsgPop, mCallF, mSetF, mPar2F, mAppF, mAppF1, mBest, mIsi2V, mRng3, mReprL, mIndex, mAppT]
  refine var_at rfl rfl (var_at rfl rfl ⟨ps, hs, x, rfl, ok, hx, ?_⟩)
  refine var_at rfl rfl ⟨_, rfl, _, _, _, rfl, fld_h, true, _, rfl, ?_⟩
  refine lc_list hD (fun h => decide (h.1 = x)) hD id hs [] (fun h hh Pt Pf k => ?_) (small (by simp; omega)) ?_
  · dsimp only [mRet, mSeq, mIf, mSet, mSetO, mCB, mACons, mANil, mOp, mC, mCall, mDrop, mTst, mTru, mNot, mAnd, mOr, mAndV, mOrV, mNotV, mIfE, mLst, mTup, mLCons, mLNil, mDat, mNext, mChain, mIsi, mIsi2, mLc, mLc2, mWalk, mWalkD, mWalkS, mRng1, mRng2, mgN, mgT, mgCons, mgNil, mAsg, mFld, mProp, mMeth, mLenSet, mSortLR, mDGet, mDisp, mApp, mExt, mFor, mRetO, mPar2, mSto, mCallR, mFldS, mNever, mYes, mLenScr, mAs, mDrI, mDrS, mCells, mWalkScr, mDrPop, mAppPop, mSl, mOSome, mONone, mRev, mJoin, mFrz, mCallO, mSetCD, mDGetO, mDPutO, mFrzD, mAsgPop, mCallF, mSetF, mPar2F, mAppF, mAppF1, mBest, mIsi2V, mRng3, mReprL, mIndex, mAppT]
    refine var_at rfl rfl (ix_fst (var_at rfl rfl ?_))
    refine fEq_of rfl rfl (ok.nm _ (okh.ok h hh).a).nice (ok.nm _ hx).nice _ (eqv_str _ _) (p := ⟨_, rfl, ?_⟩)
    show if decide (h.1 = x) = true then _ else _
    by_cases e : h.1 = x
    · rw [if_pos (decide_eq_true e)] at k ⊢
      exact var_at rfl rfl ⟨_, rfl, k⟩
    · rw [if_neg (by simpa using e)] at k ⊢
      exact k
  · rw [List.map_id]
    exact .inl ⟨_, _, rfl, rfl, p⟩
theorem in_hDs {z : Z} {ps : List Str} {hs : List (Str × Str)} {x : Str × Str} {P : Z → Prop} (ok : OkPs ps) (hx : OkH ps x) (hp : ∀ y ∈ hs, OkH ps y) (sq : ∃ t, z.seq = some (t, hs.map hD)) (c : Bool) (hc : decide (x ∈ hs) = c) (neg : Bool) (p : P (.d (.bl (if neg then !c else c)))) : fIn neg (.d (hD x)) z P := by
  obtain ⟨t, e⟩ := sq
  refine ⟨hD x, t, _, rfl, e, (hx.nice ok.nm).ok (by decide), (Nice.lst (n := 1) fun d hd => ?_).ok (by decide), ?_⟩
  · obtain ⟨y, hy, rfl⟩ := List.mem_map.mp hd
    exact (hp y hy).nice ok.nm
  · rw [any_hDs, hc]
    exact p
def S_with_handing (C : Addr) : Spc := fun zs P => ∃ ps hs h, zs = [.d (webD C ps hs), .d (hD h)] ∧ OkPs ps ∧ OkHs ps hs ∧ OkH ps h ∧ h ∉ hs ∧ hs.length < 12 ∧ P (.d (webD C (sortN ps) (sortH (hs ++ [h]))))
theorem r_with_handing (h : S_with_handing C zs P) : m_W_with_handing K C (S_Web C) S_is_handing { nx := fun _ => P (.d .non), rt := P } (startG N_W_with_handing zs) := by
  obtain ⟨ps, hs, x, rfl, ok, okh, hx, hn, hl, p⟩ := h
  dsimp only [m_W_with_handing, mRet, mSeq, mIf, mSet, mSetO, mCB, mACons, mANil, mOp, mC, mCall, mDrop, mTst, mTru, mNot, mAnd, mOr, mAndV, mOrV, mNotV, mIfE, mLst, mTup, mLCons, mLNil, mDat, mNext, mChain, mIsi, mIsi2, mLc, mLc2, mWalk, mWalkD, mWalkS, mRng1, mRng2, mgN, mgT, mgCons, mgNil, mAsg, mFld, mProp, mMeth, mLenSet, mSortLR, mDGet, mDisp, mApp, mExt, mFor, mRetO, mPar2, mSto, mCallR, mFldS, mNever, mYes, mLenScr, mAs, mDrI, mDrS, mCells, mWalkScr, mDrPop, mAppPop, mSl, mOSome, mONone, mRev, mJoin, mFrz, mCallO, mSetCD, mDGetO, mDPutO, mFrzD, mAsgPop, mCallF, mSetF, mPar2F, mAppF, mAppF1, mBest, mIsi2V, mRng3, mReprL, mIndex, mAppT]
  refine var_at rfl rfl (var_at rfl rfl ⟨_, rfl, _, _, _, rfl, fld_p, x, _, ps, rfl, .t _, ok, hx, true, rfl, ?_⟩)
  rw [if_neg (by decide)]
  refine var_at rfl rfl (var_at rfl rfl ⟨_, rfl, _, _, _, rfl, fld_h, in_hDs ok hx okh.ok ⟨_, rfl⟩ false (decide_eq_false hn) false ⟨_, rfl, ?_⟩⟩)
  rw [if_neg (by decide)]
  refine var_at rfl rfl ⟨_, rfl, _, _, _, rfl, fld_p, ?_⟩
  refine var_at rfl rfl ⟨_, rfl, _, _, _, rfl, fld_h, ?_⟩
  refine var_at rfl rfl ⟨_, rfl, (by show 1 ≤ sizeLine; decide), ?_⟩
  refine ⟨small (by simp; omega), _, _, ps, hs ++ [x], rfl, .t _, ?_, ok, ⟨by simp, by simp; omega, fun y hy => ?_, ?_⟩, p⟩
  · have : (hs.map hD ++ [hD x]) = (hs ++ [x]).map hD := by simp
    rw [← this]
    exact .t _
  · rcases List.mem_append.mp hy with z | z
    · exact okh.ok y z
    · rw [List.mem_singleton.mp z]; exact hx
  · rw [List.nodup_append]
    refine ⟨okh.nd, by simp, fun y hy z hz e => hn ?_⟩
    rw [← List.mem_singleton.mp hz, ← e]
    exact hy
def S_without (C : Addr) : Spc := fun zs P => ∃ ps hs h, zs = [.d (webD C ps hs), .d (hD h)] ∧ OkPs ps ∧ OkHs ps hs ∧ h ∈ hs ∧ 2 ≤ hs.length ∧ P (.d (webD C (sortN ps) (sortH (hs.filter fun o => decide (o ≠ h)))))
theorem filter_ne_len {α : Type} [DecidableEq α] {h : α} : ∀ {hs : List α}, hs.Nodup → 2 ≤ hs.length → 1 ≤ (hs.filter fun o => decide (o ≠ h)).length
  | [a, b], nd, _ => by
    have ne : a ≠ b := by
      rintro rfl
      simp at nd
    by_cases e : a = h
    · have : b ≠ h := fun z => ne (e.trans z.symm)
      simp [this, e]
    · simp [e]
  | a :: b :: c :: r, nd, _ => by
    have := filter_ne_len (h := h) (hs := b :: c :: r) (List.nodup_cons.mp nd).2 (by simp)
    by_cases e : a ≠ h
    · rw [List.filter_cons_of_pos (by simpa using e)]; simp
    · rw [List.filter_cons_of_neg (by simpa using e)]; exact this
def S_shorter_first : Spc := fun zs P => ∃ z, ∃ yss : List (List Str), zs = [z] ∧ Sq z (yss.map tupS) ∧ P (.own ((sortLR id yss).map tupS))
theorem r_shorter_first (h : S_shorter_first zs P) : m_shorter_first K C { nx := fun _ => P (.d .non), rt := P } (startG N_shorter_first zs) := by
  obtain ⟨z, yss, rfl, sq, p⟩ := h
  obtain ⟨t, e⟩ := sq.seq
  cases sq with
  | b => exact ⟨_, _, rfl, rfl, t, yss, e, p⟩
  | t => exact ⟨_, _, rfl, rfl, t, yss, e, p⟩
  | l => exact ⟨_, _, rfl, rfl, t, yss, e, p⟩
def S_ways_from (C : Addr) : Spc := fun zs P => ∃ ps hs a, zs = [.d (webD C ps hs), .d (.str a)] ∧ OkPs ps ∧ OkHs ps hs ∧ a ∈ ps ∧ P (.own ((allWays hs a).map tupS))
theorem WayOk.nice {ps : List Str} {a : Str} {n : Nat} {w : List Str} (h : WayOk ps a n w) (ok : ∀ x ∈ ps, OkN x) : Nice 1 (tupS w) := nice_tupS fun y hy => ok y (h.sub y hy)
theorem not_in_way {w : List Str} {x : Str} {P : Z → Prop} (hx : OkN x) (hp : ∀ y ∈ w, OkN y) (p : P (.d (.bl (decide (x ∉ w))))) : fIn true (.d (.str x)) (.d (tupS w)) P :=
  in_strs hx hp ⟨_, rfl⟩ (decide (x ∈ w)) rfl true (by simpa using p)
theorem snoc_tup {w : List Str} {x : Str} {P : Z → Prop} (hl : w.length ≤ 1000) (p : P (.d (tupS (w ++ [x])))) : fAdd (.d (tupS w)) (.d (.tup [.str x])) P := ⟨small (by simp; omega), by
  have : (w.map D.str ++ [D.str x]) = (w ++ [x]).map D.str := by simp
  rw [this]
  exact p⟩
theorem r_ways_from (h : S_ways_from C zs P) : m_ways_from K C (S_outs C) { nx := fun _ => P (.d .non), rt := P } (startG N_ways_from zs) := by
  obtain ⟨ps, hs, a, rfl, ok, okh, ha, p⟩ := h
  have h6 := ok.six
  dsimp only [m_ways_from, mRet, mSeq, mIf, mSet, mSetO, mCB, mACons, mANil, mOp, mC, mCall, mDrop, mTst, mTru, mNot, mAnd, mOr, mAndV, mOrV, mNotV, mIfE, mLst, mTup, mLCons, mLNil, mDat, mNext, mChain, mIsi, mIsi2, mLc, mLc2, mWalk, mWalkD, mWalkS, mRng1, mRng2, mgN, mgT, mgCons, mgNil, mAsg, mFld, mProp, mMeth, mLenSet, mSortLR, mDGet, mDisp, mApp, mExt, mFor, mRetO, mPar2, mSto, mCallR, mFldS, mNever, mYes, mLenScr, mAs, mDrI, mDrS, mCells, mWalkScr, mDrPop, mAppPop, mSl, mOSome, mONone, mRev, mJoin, mFrz, mCallO, mSetCD, mDGetO, mDPutO, mFrzD, mAsgPop, mCallF, mSetF, mPar2F, mAppF, mAppF1, mBest, mIsi2V, mRng3, mReprL, mIndex, mAppT]
  refine ⟨(by show 0 ≤ sizeLine; decide), _, rfl, ?_⟩
  refine var_at rfl rfl ⟨_, rfl, (by show 1 ≤ sizeLine; decide), _, rfl, (by show 1 ≤ sizeLine; decide), _, rfl, 8, ?_⟩
  have key : ∀ n k, k + n = 8 → k ≤ 6 → mWhN (mTru (mVar 3)) (mSeq (mExt 2 (mVar 3)) (mSet 3 (mLc2 (mWalk (mVar 3)) (mgN 4) mYes (mWalkD (mDat (mMeth C "outs" (S_outs C) (mDat (mVar 0)) (mACons (mOp fIx (mVar 4) (mC (.int (-1)))) mANil)))) (mgT 2 (mgCons (mgN 5) (mgCons (mgN 6) mgNil))) (mTst (mOp (fIn true) (mVar 6) (mVar 4))) (mDat (mOp fAdd (mVar 4) (mTup (mLCons (mDat (mVar 6)) mLNil)))) (List.map (fun x => x.2) ([("way", 4), ("_", 5), ("taker", 6)] : List (Str × Nat))) [5, 6])))
      { nx := mRetO 2 { nx := fun _ => P (.d .non), rt := P }, rt := P } n [some (.d (webD C ps hs)), some (.d (.str a)), some (.own ((upTo hs a k).map tupS)), some (.d (.lst ((level hs a k).map tupS))), none, none, none] := by
    intro n
    induction n with
    | zero => intro k hk h; omega
    | succ n ih =>
      intro k hk hk6
      refine var_at rfl rfl ⟨_, rfl, ?_⟩
      cases e : level hs a k with
      | nil =>
        rw [if_neg (by decide)]
        refine ⟨_, rfl, ?_⟩
        rw [upTo_all hk6 e]
        exact p
      | cons w r =>
        rw [if_pos (show (!(List.map tupS (w :: r)).isEmpty) = true from rfl), ← e]
        have hk5 : k < 6 := by
          rcases Nat.lt_or_ge k 6 with z | z
          · exact z
          · rw [level_end ha okh.ok h6 z] at e; cases e
        have l1 := upTo_len okh h6 a k hk6
        have l2 := level_len okh h6 a k
        have l3 : 6 ^ k ≤ 6 ^ 6 := Nat.pow_le_pow_right (by decide) hk6
        have l4 := level_len okh h6 a (k + 1)
        have l5 : 6 ^ (k + 1) ≤ 6 ^ 6 := Nat.pow_le_pow_right (by decide) hk5
        have l6 : (6 : Nat) ^ 6 = 46656 := by decide
        dsimp only [mRet, mSeq, mIf, mSet, mSetO, mCB, mACons, mANil, mOp, mC, mCall, mDrop, mTst, mTru, mNot, mAnd, mOr, mAndV, mOrV, mNotV, mIfE, mLst, mTup, mLCons, mLNil, mDat, mNext, mChain, mIsi, mIsi2, mLc, mLc2, mWalk, mWalkD, mWalkS, mRng1, mRng2, mgN, mgT, mgCons, mgNil, mAsg, mFld, mProp, mMeth, mLenSet, mSortLR, mDGet, mDisp, mApp, mExt, mFor, mRetO, mPar2, mSto, mCallR, mFldS, mNever, mYes, mLenScr, mAs, mDrI, mDrS, mCells, mWalkScr, mDrPop, mAppPop, mSl, mOSome, mONone, mRev, mJoin, mFrz, mCallO, mSetCD, mDGetO, mDPutO, mFrzD, mAsgPop, mCallF, mSetF, mPar2F, mAppF, mAppF1, mBest, mIsi2V, mRng3, mReprL, mIndex, mAppT]
        refine ⟨_, rfl, var_at rfl rfl ⟨_, rfl, small (by rw [List.length_map, List.length_map]; omega), ?_⟩⟩
        refine var_at rfl rfl ⟨_, _, rfl, ?_⟩
        refine lc2_list tupS tupS (grow hs) (level hs a k) [] (fun w hw acc K N hl k' => ?_) (small (by show [].length + (level hs a (k + 1)).length ≤ _; simp; omega)) ?_
        · have o := level_ok ha okh.ok k w hw
          have okw : ∀ y ∈ w, OkN y := fun y hy => ok.nm y (o.sub y hy)
          have hla : lastS w ∈ ps := o.sub _ (lastS_mem o.ne)
          dsimp only [mRet, mSeq, mIf, mSet, mSetO, mCB, mACons, mANil, mOp, mC, mCall, mDrop, mTst, mTru, mNot, mAnd, mOr, mAndV, mOrV, mNotV, mIfE, mLst, mTup, mLCons, mLNil, mDat, mNext, mChain, mIsi, mIsi2, mLc, mLc2, mWalk, mWalkD, mWalkS, mRng1, mRng2, mgN, mgT, mgCons, mgNil, mAsg, mFld, mProp, mMeth, mLenSet, mSortLR, mDGet, mDisp, mApp, mExt, mFor, mRetO, mPar2, mSto, mCallR, mFldS, mNever, mYes, mLenScr, mAs, mDrI, mDrS, mCells, mWalkScr, mDrPop, mAppPop, mSl, mOSome, mONone, mRev, mJoin, mFrz, mCallO, mSetCD, mDGetO, mDPutO, mFrzD, mAsgPop, mCallF, mSetF, mPar2F, mAppF, mAppF1, mBest, mIsi2V, mRng3, mReprL, mIndex, mAppT]
          refine var_at rfl rfl ⟨_, rfl, _, _, rfl, by decide +kernel, var_at rfl rfl (ix_last o.ne ⟨ps, hs, lastS w, rfl, ok, okh, hla, _, rfl, _, _, rfl, ?_⟩)⟩
          have eg : grow hs w = ((hs.filter fun h => decide (h.1 = lastS w)).filter fun h => decide (h.2 ∉ w)).map fun h => w ++ [h.2] := by
            unfold grow nexts
            rw [List.filter_map, List.map_map]
            rfl
          refine lc_listF hD (fun h : Str × Str => decide (h.2 ∉ w)) tupS (fun h : Str × Str => w ++ [h.2]) _ acc (fun h hh Pt Pf k2 => ?_) ?_ ?_
          · have oh := okh.ok h (List.mem_filter.mp hh).1
            dsimp only [mRet, mSeq, mIf, mSet, mSetO, mCB, mACons, mANil, mOp, mC, mCall, mDrop, mTst, mTru, mNot, mAnd, mOr, mAndV, mOrV, mNotV, mIfE, mLst, mTup, mLCons, mLNil, mDat, mNext, mChain, mIsi, mIsi2, mLc, mLc2, mWalk, mWalkD, mWalkS, mRng1, mRng2, mgN, mgT, mgCons, mgNil, mAsg, mFld, mProp, mMeth, mLenSet, mSortLR, mDGet, mDisp, mApp, mExt, mFor, mRetO, mPar2, mSto, mCallR, mFldS, mNever, mYes, mLenScr, mAs, mDrI, mDrS, mCells, mWalkScr, mDrPop, mAppPop, mSl, mOSome, mONone, mRev, mJoin, mFrz, mCallO, mSetCD, mDGetO, mDPutO, mFrzD, mAsgPop, mCallF, mSetF, mPar2F, mAppF, mAppF1, mBest, mIsi2V, mRng3, mReprL, mIndex, mAppT]
            refine ⟨_, rfl, rfl, _, _, rfl, _, _, rfl, rfl, ?_⟩
            refine var_at rfl rfl (var_at rfl rfl (not_in_way (ok.nm _ oh.b) okw ⟨_, rfl, ?_⟩))
            by_cases c : h.2 ∉ w
            · rw [if_pos (decide_eq_true c)] at k2 ⊢
              exact var_at rfl rfl (var_at rfl rfl ⟨_, rfl, (by show 1 ≤ sizeLine; decide), snoc_tup (by rw [o.len]; omega) ⟨_, rfl, k2⟩⟩)
            · rw [if_neg (by simpa using c)] at k2 ⊢
              exact k2
          · rw [eg, List.length_map] at hl
            exact hl
          · rw [← eg]
            exact k'
        · refine ⟨_, rfl, ?_⟩
          have := ih (k + 1) (by omega) hk5
          rw [upTo_succ, List.map_append] at this
          exact this
  have := key 8 0 rfl (by decide)
  exact this
/-- the ways from a to b, shorter first -/
def waysOf (hs : List (Str × Str)) (a b : Str) : List (List Str) := sortLR id ((allWays hs a).filter fun w => decide (lastS w = b))
def S_ways (C : Addr) : Spc := fun zs P => ∃ ps hs a b, zs = [.d (webD C ps hs), .d (.str a), .d (.str b)] ∧ OkPs ps ∧ OkHs ps hs ∧ a ∈ ps ∧ b ∈ ps ∧ P (.own ((waysOf hs a b).map tupS))
theorem mem_all {hs : List (Str × Str)} {a : Str} {w : List Str} (h : w ∈ allWays hs a) : ∃ n, w ∈ level hs a n := by
  obtain ⟨n, _, hn⟩ := List.mem_flatMap.mp h
  exact ⟨n, hn⟩
theorem mem_waysOf {hs : List (Str × Str)} {a b : Str} {w : List Str} (h : w ∈ waysOf hs a b) : (∃ n, w ∈ level hs a n) ∧ lastS w = b := by
  obtain ⟨h1, h2⟩ := List.mem_filter.mp (List.mem_mergeSort.mp h)
  exact ⟨mem_all h1, of_decide_eq_true h2⟩
theorem waysOf_len {ps : List Str} {hs : List (Str × Str)} (okh : OkHs ps hs) (h6 : ps.length ≤ 6) (a b : Str) : (waysOf hs a b).length ≤ 9331 := by
  have l1 := upTo_len okh h6 a 6 (Nat.le_refl _)
  have := List.length_filter_le (fun w => decide (lastS w = b)) (allWays hs a)
  unfold waysOf sortLR
  rw [List.length_mergeSort]
  have e : allWays hs a = upTo hs a 6 := rfl
  rw [e] at this ⊢
  omega
/-- lengths -/
def lens (yss : List (List Str)) : List D := yss.map fun w => D.int ((w.length : Int) - 1)
def S_lengths (C : Addr) : Spc := fun zs P => ∃ ps hs a b, zs = [.d (webD C ps hs), .d (.str a), .d (.str b)] ∧ OkPs ps ∧ OkHs ps hs ∧ a ∈ ps ∧ b ∈ ps ∧ P (.own (lens (waysOf hs a b)))
/-- the length of the first way, of the last one -/
def nearD (yss : List (List Str)) : D := match yss.head? with
  | none => .non
  | some w => .int ((w.length : Int) - 1)
def farD (yss : List (List Str)) : D := match yss.getLast? with
  | none => .non
  | some w => .int ((w.length : Int) - 1)
def S_nearest (C : Addr) : Spc := fun zs P => ∃ ps hs a b, zs = [.d (webD C ps hs), .d (.str a), .d (.str b)] ∧ OkPs ps ∧ OkHs ps hs ∧ a ∈ ps ∧ b ∈ ps ∧ P (.d (nearD (waysOf hs a b)))
def S_farthest (C : Addr) : Spc := fun zs P => ∃ ps hs a b, zs = [.d (webD C ps hs), .d (.str a), .d (.str b)] ∧ OkPs ps ∧ OkHs ps hs ∧ a ∈ ps ∧ b ∈ ps ∧ P (.d (farD (waysOf hs a b)))
end
end GL
end
section
set_option linter.all false
set_option maxRecDepth 100000
set_option maxHeartbeats 4000000
namespace GL
open PySem L2 PySem.W PyProof.Rows
variable [TabCx]
/-- a for by an invariant over what is left -/
theorem for_list {α : Type} {g : GL.D → Env → (Env → Prop) → Prop} {mb : GMS} {D : GEnds} (e : α → GL.D) (I : List α → Env → Prop) (H : ∀ a rest ρ (Nx : Env → Prop), I (a :: rest) ρ → (∀ ρ', I rest ρ' → Nx ρ') → g (e a) ρ fun ρ1 => mb { D with nx := Nx, ct := Nx, bk := D.nx, top := false } ρ1)
    (h0 : ∀ ρ, I [] ρ → D.nx ρ) : ∀ (as : List α) (ρ : Env), I as ρ → mForL g mb D (as.map e) ρ
  | [], ρ, h => h0 ρ h
  | a :: as, ρ, h => H a as ρ _ h fun ρ' h' => for_list e I H h0 as ρ' h'
/-- a while by an invariant with a measure -/
theorem wh_of {c : GMT} {mb : GMS} {D : GEnds} (I : Nat → Env → Prop) (h0 : ∀ ρ, ¬ I 0 ρ) (H : ∀ n ρ (Nx : Env → Prop), I (n + 1) ρ → (∀ ρ', I n ρ' → Nx ρ') → c ρ fun k => if k = true then mb { D with nx := Nx, ct := Nx, bk := D.nx, top := false } ρ else D.nx ρ) : ∀ n ρ, I n ρ → mWhN c mb D n ρ
  | 0, ρ, h => absurd h (h0 ρ)
  | n + 1, ρ, h => H n ρ _ h fun ρ' h' => wh_of I h0 H n ρ' h'
/-- a law's model of a web -/
def mdD (dots : List Str) (ties : List (Str × Str)) : D := .dic [Sum.inr "dots", Sum.inr "ties"] [.lst (dots.map D.str), .lst (ties.map hD)]
theorem md_dots {a b : D} : lookD "dots" [Sum.inr "dots", Sum.inr "ties"] [a, b] = some a := if_pos rfl
theorem md_ties {a b : D} : lookD "ties" [Sum.inr "dots", Sum.inr "ties"] [a, b] = some b := by
  have e : ¬ (("dots" : Str) = "ties") := by decide +kernel
  show (if ("dots" : Str) = "ties" then some a else if ("ties" : Str) = "ties" then some b else none) = _
  rw [if_neg e, if_pos rfl]
section
variable {K : PySem.W.Frag} {C : Addr} {zs : List Z} {P : Z → Prop}
def S__law_next : Spc := fun zs P => ∃ ps hs a, zs = [.d (mdD ps hs), .d (.str a)] ∧ OkPs ps ∧ OkHs ps hs ∧ a ∈ ps ∧ P (.own ((nexts hs a).map D.str))
theorem r__law_next (h : S__law_next zs P) : m__law_next K C { nx := fun _ => P (.d .non), rt := P } (startG N__law_next zs) := by
  obtain ⟨ps, hs, a, rfl, ok, okh, ha, p⟩ := h
  have h2 := okh.twelve
  dsimp only [m__law_next, mRet, mSeq, mIf, mSet, mSetO, mCB, mACons, mANil, mOp, mC, mCall, mDrop, mTst, mTru, mNot, mAnd, mOr, mAndV, mOrV, mNotV, mIfE, mLst, mTup, mLCons, mLNil, mDat, mNext, mChain, mIsi, mIsi2, mLc, mLc2, mWalk, mWalkD, mWalkS, mRng1, mRng2, mgN, mgT, mgCons, mgNil, mAsg, mFld, mProp, mMeth, mLenSet, mSortLR, mDGet, mDisp, mApp, mExt, mFor, mRetO, mPar2, mSto, mCallR, mFldS, mNever, mYes, mLenScr, mAs, mDrI, mDrS, mCells, mWalkScr, mDrPop, mAppPop, mSl, mOSome, mONone, mRev, mJoin, mFrz, mCallO, mSetCD, mDGetO, mDPutO, mFrzD, mAsgPop, mCallF, mSetF, mPar2F, mAppF, mAppF1, mBest, mIsi2V, mRng3, mReprL, mIndex, mAppT]
  refine var_at rfl rfl ⟨_, rfl, _, _, _, rfl, md_ties, false, _, rfl, ?_⟩
  refine lc_list hD (fun h => decide (h.1 = a)) D.str (fun h : Str × Str => h.2) hs [] (fun h hh Pt Pf k => ?_) (small (by simp; omega)) ?_
  · dsimp only [mRet, mSeq, mIf, mSet, mSetO, mCB, mACons, mANil, mOp, mC, mCall, mDrop, mTst, mTru, mNot, mAnd, mOr, mAndV, mOrV, mNotV, mIfE, mLst, mTup, mLCons, mLNil, mDat, mNext, mChain, mIsi, mIsi2, mLc, mLc2, mWalk, mWalkD, mWalkS, mRng1, mRng2, mgN, mgT, mgCons, mgNil, mAsg, mFld, mProp, mMeth, mLenSet, mSortLR, mDGet, mDisp, mApp, mExt, mFor, mRetO, mPar2, mSto, mCallR, mFldS, mNever, mYes, mLenScr, mAs, mDrI, mDrS, mCells, mWalkScr, mDrPop, mAppPop, mSl, mOSome, mONone, mRev, mJoin, mFrz, mCallO, mSetCD, mDGetO, mDPutO, mFrzD, mAsgPop, mCallF, mSetF, mPar2F, mAppF, mAppF1, mBest, mIsi2V, mRng3, mReprL, mIndex, mAppT]
    refine ⟨_, rfl, rfl, _, _, rfl, _, _, rfl, rfl, ?_⟩
    refine var_at rfl rfl (var_at rfl rfl (fEq_of rfl rfl (ok.nm _ (okh.ok h hh).a).nice (ok.nm _ ha).nice _ (eqv_str _ _) (p := ⟨_, rfl, ?_⟩)))
    by_cases e : h.1 = a
    · rw [if_pos (decide_eq_true e)] at k
      rw [decide_eq_true e, if_pos (by decide)]
      exact var_at rfl rfl ⟨_, rfl, k⟩
    · rw [if_neg (by simpa using e)] at k
      rw [decide_eq_false e, if_neg (by decide)]
      exact k
  · exact p
/-- what the law sorts -/
def lenD (w : List Str) : D := .tup [.int w.length, tupS w]
theorem lenD_py (w : List Str) : (lenD w).py = keyLR w := by
  show D.py (.tup _) = _
  rw [D.py, D.pys, D.pys, D.pys, tupS_py]
  simp [D.py, keyLR]
theorem plain_tupS (w : List Str) : (tupS w).plain = true := by
  show D.plain (.tup _) = true
  rw [D.plain, D.plains_eq, List.all_map]
  exact List.all_eq_true.mpr fun x _ => by simp [D.plain]
theorem plain_lenD (w : List Str) : (lenD w).plain = true := by
  show D.plain (.tup _) = true
  rw [D.plain, D.plains, D.plains, D.plains, plain_tupS]
  simp [D.plain]
def S__law_shorter : Spc := fun zs P => ∃ z, ∃ yss : List (List Str), zs = [z] ∧ Sq z (yss.map tupS) ∧ yss.length ≤ 100000 ∧ P (.own ((sortLR id yss).map tupS))
theorem filter_yes {α : Type} (xs : List α) : xs.filter (fun _ => true) = xs := by simp
theorem r__law_shorter (h : S__law_shorter zs P) : m__law_shorter K C { nx := fun _ => P (.d .non), rt := P } (startG N__law_shorter zs) := by
  obtain ⟨z, yss, rfl, sq, hl, p⟩ := h
  have v0 : ∀ {x y : Option G} {P : Z → Prop}, P z → mVar 0 [z.toG, x, y] P := by
    obtain ⟨g, eg, gz⟩ := sq.var
    exact fun q => var_at (by show some z.toG = _; rw [eg]) gz q
  obtain ⟨t, et⟩ := sq.seq
  dsimp only [m__law_shorter, mRet, mSeq, mIf, mSet, mSetO, mCB, mACons, mANil, mOp, mC, mCall, mDrop, mTst, mTru, mNot, mAnd, mOr, mAndV, mOrV, mNotV, mIfE, mLst, mTup, mLCons, mLNil, mDat, mNext, mChain, mIsi, mIsi2, mLc, mLc2, mWalk, mWalkD, mWalkS, mRng1, mRng2, mgN, mgT, mgCons, mgNil, mAsg, mFld, mProp, mMeth, mLenSet, mSortLR, mDGet, mDisp, mApp, mExt, mFor, mRetO, mPar2, mSto, mCallR, mFldS, mNever, mYes, mLenScr, mAs, mDrI, mDrS, mCells, mWalkScr, mDrPop, mAppPop, mSl, mOSome, mONone, mRev, mJoin, mFrz, mCallO, mSetCD, mDGetO, mDPutO, mFrzD, mAsgPop, mCallF, mSetF, mPar2F, mAppF, mAppF1, mBest, mIsi2V, mRng3, mReprL, mIndex, mAppT]
  refine v0 ⟨t, _, et, ?_⟩
  refine lc_list tupS (fun _ => true) lenD id yss [] (fun w hw Pt Pf k => ?_) (small (by simp; omega)) ?_
  · dsimp only [mRet, mSeq, mIf, mSet, mSetO, mCB, mACons, mANil, mOp, mC, mCall, mDrop, mTst, mTru, mNot, mAnd, mOr, mAndV, mOrV, mNotV, mIfE, mLst, mTup, mLCons, mLNil, mDat, mNext, mChain, mIsi, mIsi2, mLc, mLc2, mWalk, mWalkD, mWalkS, mRng1, mRng2, mgN, mgT, mgCons, mgNil, mAsg, mFld, mProp, mMeth, mLenSet, mSortLR, mDGet, mDisp, mApp, mExt, mFor, mRetO, mPar2, mSto, mCallR, mFldS, mNever, mYes, mLenScr, mAs, mDrI, mDrS, mCells, mWalkScr, mDrPop, mAppPop, mSl, mOSome, mONone, mRev, mJoin, mFrz, mCallO, mSetCD, mDGetO, mDPutO, mFrzD, mAsgPop, mCallF, mSetF, mPar2F, mAppF, mAppF1, mBest, mIsi2V, mRng3, mReprL, mIndex, mAppT]
    refine var_at rfl rfl (len_seq ⟨_, rfl⟩ ⟨_, rfl, var_at rfl rfl ⟨_, rfl, (by show 2 ≤ sizeLine; decide), _, rfl, ?_⟩⟩)
    rw [List.length_map]
    exact k
  · rw [filter_yes, List.map_id, List.nil_append]
    have pys : D.pys (yss.map lenD) = yss.map keyLR := by
      rw [D.pys_eq, List.map_map]
      exact List.map_congr_left fun w _ => lenD_py w
    refine ⟨_, false, _, rfl, rfl, ?_, by rw [pys]; exact keyLR_alike yss, .inl ?_, ?_, ?_⟩
    · rw [D.plains_eq, List.all_map]
      exact List.all_eq_true.mpr fun w _ => plain_lenD w
    · rw [pys]
      intro d hd
      obtain ⟨w, _, rfl⟩ := List.mem_map.mp hd
      exact ⟨_, _, rfl⟩
    · intro d hd
      obtain ⟨w, _, rfl⟩ := List.mem_map.mp hd
      rw [lenD_py]
      exact keyLR_depth w
    · have : (yss.map lenD).mergeSort (dataLe false D.py) = (sortLR id yss).map lenD := (List.map_mergeSort (f := lenD) (r := dataLe false fun b => keyLR (id b)) (s := dataLe false D.py) fun a _ b _ => by
        show sortLe _ _ _ a b = sortLe _ _ _ (lenD a) (lenD b)
        unfold sortLe
        dsimp only
        rw [lenD_py, lenD_py]
        rfl).symm
      rw [this]
      refine ⟨false, _, rfl, ?_⟩
      refine lc_list lenD (fun _ => true) tupS id (sortLR id yss) [] (fun w hw Pt Pf k => ?_) (small (by unfold sortLR; rw [List.length_mergeSort]; simp; omega)) ?_
      · dsimp only [mRet, mSeq, mIf, mSet, mSetO, mCB, mACons, mANil, mOp, mC, mCall, mDrop, mTst, mTru, mNot, mAnd, mOr, mAndV, mOrV, mNotV, mIfE, mLst, mTup, mLCons, mLNil, mDat, mNext, mChain, mIsi, mIsi2, mLc, mLc2, mWalk, mWalkD, mWalkS, mRng1, mRng2, mgN, mgT, mgCons, mgNil, mAsg, mFld, mProp, mMeth, mLenSet, mSortLR, mDGet, mDisp, mApp, mExt, mFor, mRetO, mPar2, mSto, mCallR, mFldS, mNever, mYes, mLenScr, mAs, mDrI, mDrS, mCells, mWalkScr, mDrPop, mAppPop, mSl, mOSome, mONone, mRev, mJoin, mFrz, mCallO, mSetCD, mDGetO, mDPutO, mFrzD, mAsgPop, mCallF, mSetF, mPar2F, mAppF, mAppF1, mBest, mIsi2V, mRng3, mReprL, mIndex, mAppT]
        exact ⟨_, rfl, rfl, _, _, rfl, _, _, rfl, rfl, var_at rfl rfl ⟨_, rfl, k⟩⟩
      · rw [filter_yes, List.map_id, List.nil_append]
        exact p
theorem hits_all {ps : List Str} {hs : List (Str × Str)} {a g : Str} (ha : a ∈ ps) (ok : ∀ h ∈ hs, OkH ps h) {k : Nat} (hk : k ≤ 6) (h : lline hs a g k = []) : hitsTo hs a g k = (allWays hs a).filter fun w => decide (lastS w = g) := by
  have e : ∀ m, lline hs a g (k + m) = [] := by
    intro m
    induction m with
    | zero => exact h
    | succ m ih => show (lline hs a g (k + m)).flatMap _ = []; rw [ih]; rfl
  have key : ∀ m, hitsTo hs a g (k + m) = hitsTo hs a g k := by
    intro m
    induction m with
    | zero => rfl
    | succ m ih =>
      unfold hitsTo at ih ⊢
      rw [← Nat.add_assoc, upTo_succ, List.filter_append, ih, ← lline_hit ha ok, e m]
      simp
  have := key (6 - k)
  rw [Nat.add_sub_cancel' hk] at this
  exact this.symm
def S__law_ways : Spc := fun zs P => ∃ ps hs a b, zs = [.d (mdD ps hs), .d (.str a), .d (.str b)] ∧ OkPs ps ∧ OkHs ps hs ∧ a ∈ ps ∧ b ∈ ps ∧ P (.own ((waysOf hs a b).map tupS))
theorem lline_sub {ps : List Str} {hs : List (Str × Str)} {a g : Str} (ha : a ∈ ps) (ok : ∀ h ∈ hs, OkH ps h) {n : Nat} {w : List Str} (h : w ∈ lline hs a g n) : w ∈ level hs a n := by
  rw [lline_eq ha ok] at h
  exact (List.mem_filter.mp h).1
theorem r__law_ways (h : S__law_ways zs P) : m__law_ways K C S__law_next S__law_shorter { nx := fun _ => P (.d .non), rt := P } (startG N__law_ways zs) := by
  obtain ⟨ps, hs, a, b, rfl, ok, okh, ha, hb, p⟩ := h
  have h6 := ok.six
  have l6 : (6 : Nat) ^ 6 = 46656 := by decide
  dsimp only [m__law_ways, mRet, mSeq, mIf, mSet, mSetO, mCB, mACons, mANil, mOp, mC, mCall, mDrop, mTst, mTru, mNot, mAnd, mOr, mAndV, mOrV, mNotV, mIfE, mLst, mTup, mLCons, mLNil, mDat, mNext, mChain, mIsi, mIsi2, mLc, mLc2, mWalk, mWalkD, mWalkS, mRng1, mRng2, mgN, mgT, mgCons, mgNil, mAsg, mFld, mProp, mMeth, mLenSet, mSortLR, mDGet, mDisp, mApp, mExt, mFor, mRetO, mPar2, mSto, mCallR, mFldS, mNever, mYes, mLenScr, mAs, mDrI, mDrS, mCells, mWalkScr, mDrPop, mAppPop, mSl, mOSome, mONone, mRev, mJoin, mFrz, mCallO, mSetCD, mDGetO, mDPutO, mFrzD, mAsgPop, mCallF, mSetF, mPar2F, mAppF, mAppF1, mBest, mIsi2V, mRng3, mReprL, mIndex, mAppT]
  refine ⟨(by show 0 ≤ sizeLine; decide), ?_⟩
  rw [if_pos rfl]
  refine ⟨_, rfl, var_at rfl rfl ⟨_, rfl, (by show 1 ≤ sizeLine; decide), _, rfl, (by show 1 ≤ sizeLine; decide), ?_⟩⟩
  rw [if_neg (by decide)]
  refine ⟨_, rfl, 8, ?_⟩
  refine wh_of (fun n ρ => ∃ k x5 x6, k + n = 8 ∧ k ≤ 6 ∧ ρ = [some (.d (mdD ps hs)), some (.d (.str a)), some (.d (.str b)), some (.own ((hitsTo hs a b k).map tupS)), some (.d (.lst ((lline hs a b k).map tupS))), x5, x6, none]) ?_ ?_ 8 _ ⟨0, none, none, rfl, by decide, rfl⟩
  · rintro ρ ⟨k, _, _, h1, h2, _⟩
    omega
  rintro n ρ Nx ⟨k, x5, x6, hk, hk6, rfl⟩ nx
  have okl : ∀ w ∈ lline hs a b k, WayOk ps a k w := fun w hw => level_ok ha okh.ok k w (lline_sub ha okh.ok hw)
  have nl : Nice 2 (.lst ((lline hs a b k).map tupS)) := Nice.lst fun d hd => by
    obtain ⟨w, hw, rfl⟩ := List.mem_map.mp hd
    exact (okl w hw).nice ok.nm
  have l1 := upTo_len okh h6 a k hk6
  have l1' : (hitsTo hs a b k).length ≤ 9331 := by
    have := List.length_filter_le (fun w => decide (lastS w = b)) (upTo hs a k)
    unfold hitsTo
    omega
  have l2 := level_len okh h6 a k
  have l3 : 6 ^ k ≤ 6 ^ 6 := Nat.pow_le_pow_right (by decide) hk6
  have l7 : (lline hs a b k).length ≤ (level hs a k).length := by
    rw [lline_eq ha okh.ok]
    exact List.length_filter_le _ _
  have n0 : Nice 2 (.lst []) := Nice.lst fun d hd => by cases hd
  refine var_at rfl rfl ⟨(by show 0 ≤ sizeLine; decide), ?_⟩
  by_cases e : lline hs a b k = []
  · refine fEq_of rfl rfl nl n0 true (by rw [e]; simp [D.py, D.pys, PyData.eqv, PyData.eqvAll]) (p := ⟨_, rfl, ?_⟩)
    show if (if true = true then !true else true) = true then _ else _
    rw [if_neg (show ¬ ((if true = true then !true else true) = true) from by decide)]
    refine ⟨_, _, rfl, rfl, ?_⟩
    have hh := hits_all (g := b) ha okh.ok hk6 e
    refine ⟨_, hitsTo hs a b k, rfl, .b _, by omega, ?_⟩
    rw [hh]
    exact p
  · have hk5 : k < 6 := by
      rcases Nat.lt_or_ge k 6 with z | z
      · exact z
      · refine absurd ?_ e
        rw [lline_eq ha okh.ok k, level_end ha okh.ok h6 z]
        rfl
    refine fEq_of rfl rfl nl n0 false ?_ (p := ⟨_, rfl, ?_⟩)
    · cases q : lline hs a b k with
      | nil => exact absurd q e
      | cons w r => simp [D.py, D.pys, PyData.eqv, PyData.eqvAll]
    show if (if true = true then !false else false) = true then _ else _
    rw [if_pos (show ((if true = true then !false else false) = true) from by decide)]
    refine ⟨(by show 0 ≤ sizeLine; decide), _, rfl, ?_⟩
    refine var_at rfl rfl ⟨_, rfl, false, _, rfl, ?_⟩
    have l4 := level_len okh h6 a (k + 1)
    have l5 : 6 ^ (k + 1) ≤ 6 ^ 6 := Nat.pow_le_pow_right (by decide) hk5
    have l8 : (lline hs a b (k + 1)).length ≤ (level hs a (k + 1)).length := by
      rw [lline_eq ha okh.ok]
      exact List.length_filter_le _ _
    have l9 : (hitsTo hs a b (k + 1)).length ≤ 9331 := by
      have := List.length_filter_le (fun w => decide (lastS w = b)) (upTo hs a (k + 1))
      have := upTo_len okh h6 a (k + 1) hk5
      unfold hitsTo
      omega
    refine for_list tupS (fun rest ρ => ∃ found longer x6, (∀ w ∈ rest, w ∈ lline hs a b k) ∧ found ++ rest.filter (fun w => decide (lastS w = b)) = hitsTo hs a b (k + 1) ∧ longer ++ rest.flatMap (fun w => if lastS w = b then [] else grow hs w) = lline hs a b (k + 1) ∧
      ρ = [some (.d (mdD ps hs)), some (.d (.str a)), some (.d (.str b)), some (.own (found.map tupS)), some (.d (.lst ((lline hs a b k).map tupS))), some (.d (.lst (longer.map tupS))), x6, none]) ?_ ?_ (lline hs a b k) _ ⟨hitsTo hs a b k, [], x6, fun w hw => hw, ?_, rfl, rfl⟩
    · rintro w rest ρ Nx2 ⟨found, longer, x6, sub, e1, e2, rfl⟩ nx2
      have o := okl w (sub w List.mem_cons_self)
      have okw : ∀ y ∈ w, OkN y := fun y hy => ok.nm y (o.sub y hy)
      have hla : lastS w ∈ ps := o.sub _ (lastS_mem o.ne)
      have b1 := congrArg List.length e1
      have b2 := congrArg List.length e2
      rw [List.length_append] at b1 b2
      dsimp only [mRet, mSeq, mIf, mSet, mSetO, mCB, mACons, mANil, mOp, mC, mCall, mDrop, mTst, mTru, mNot, mAnd, mOr, mAndV, mOrV, mNotV, mIfE, mLst, mTup, mLCons, mLNil, mDat, mNext, mChain, mIsi, mIsi2, mLc, mLc2, mWalk, mWalkD, mWalkS, mRng1, mRng2, mgN, mgT, mgCons, mgNil, mAsg, mFld, mProp, mMeth, mLenSet, mSortLR, mDGet, mDisp, mApp, mExt, mFor, mRetO, mPar2, mSto, mCallR, mFldS, mNever, mYes, mLenScr, mAs, mDrI, mDrS, mCells, mWalkScr, mDrPop, mAppPop, mSl, mOSome, mONone, mRev, mJoin, mFrz, mCallO, mSetCD, mDGetO, mDPutO, mFrzD, mAsgPop, mCallF, mSetF, mPar2F, mAppF, mAppF1, mBest, mIsi2V, mRng3, mReprL, mIndex, mAppT]
      refine var_at rfl rfl (ix_last o.ne (var_at rfl rfl ?_))
      refine fEq_of rfl rfl (ok.nm _ hla).nice (ok.nm _ hb).nice _ (eqv_str _ _) (p := ⟨_, rfl, ?_⟩)
      by_cases c : lastS w = b
      · rw [decide_eq_true c, if_pos (by decide)]
        rw [List.filter_cons_of_pos (by simpa using c)] at e1 b1
        rw [List.flatMap_cons, if_pos c, List.nil_append] at e2
        rw [List.length_cons] at b1
        refine ⟨_, rfl, var_at rfl rfl ⟨_, rfl, by rw [List.length_map]; exact Nat.lt_of_lt_of_le (by omega : found.length < 1000000) (by decide), nx2 _ ⟨found ++ [w], longer, some (.d (tupS w)), fun v hv => sub v (List.mem_cons_of_mem _ hv), by rw [List.append_assoc]; exact e1, e2, ?_⟩⟩⟩
        rw [List.map_append]
        rfl
      · rw [decide_eq_false c, if_neg (by decide)]
        rw [List.filter_cons_of_neg (by simpa using c)] at e1
        rw [List.flatMap_cons, if_neg c] at e2 b2
        rw [List.length_append] at b2
        refine var_at rfl rfl (var_at rfl rfl (var_at rfl rfl (ix_last o.ne ⟨ps, hs, lastS w, rfl, ok, okh, hla, false, _, rfl, ?_⟩)))
        refine lc_listF D.str (fun x => decide (x ∉ w)) tupS (fun x => w ++ [x]) (nexts hs (lastS w)) [] (fun x hx Pt Pf k2 => ?_) ?_ ?_
        · have hx' : x ∈ ps := by
            obtain ⟨h, hh, rfl⟩ := List.mem_map.mp hx
            exact (okh.ok h (List.mem_filter.mp hh).1).b
          dsimp only [mRet, mSeq, mIf, mSet, mSetO, mCB, mACons, mANil, mOp, mC, mCall, mDrop, mTst, mTru, mNot, mAnd, mOr, mAndV, mOrV, mNotV, mIfE, mLst, mTup, mLCons, mLNil, mDat, mNext, mChain, mIsi, mIsi2, mLc, mLc2, mWalk, mWalkD, mWalkS, mRng1, mRng2, mgN, mgT, mgCons, mgNil, mAsg, mFld, mProp, mMeth, mLenSet, mSortLR, mDGet, mDisp, mApp, mExt, mFor, mRetO, mPar2, mSto, mCallR, mFldS, mNever, mYes, mLenScr, mAs, mDrI, mDrS, mCells, mWalkScr, mDrPop, mAppPop, mSl, mOSome, mONone, mRev, mJoin, mFrz, mCallO, mSetCD, mDGetO, mDPutO, mFrzD, mAsgPop, mCallF, mSetF, mPar2F, mAppF, mAppF1, mBest, mIsi2V, mRng3, mReprL, mIndex, mAppT]
          refine var_at rfl rfl (var_at rfl rfl (not_in_way (ok.nm _ hx') okw ⟨_, rfl, ?_⟩))
          by_cases c : x ∉ w
          · rw [if_pos (decide_eq_true c)] at k2 ⊢
            exact var_at rfl rfl (var_at rfl rfl ⟨_, rfl, (by show 1 ≤ sizeLine; decide), snoc_tup (by rw [o.len]; omega) ⟨_, rfl, k2⟩⟩)
          · rw [if_neg (by simpa using c)] at k2 ⊢
            exact k2
        · have := grow_len okh h6 w
          unfold grow at this
          rw [List.length_map] at this
          exact small (by rw [List.length_nil]; omega)
        · rw [List.nil_append]
          refine ⟨_, _, rfl, rfl, by rw [List.length_map, List.length_map]; exact small (by show longer.length + (grow hs w).length ≤ _; omega), _, rfl, ?_⟩
          refine nx2 _ ⟨found, longer ++ grow hs w, some (.d (tupS w)), fun v hv => sub v (List.mem_cons_of_mem _ hv), e1, by rw [List.append_assoc]; exact e2, ?_⟩
          rw [List.map_append]
          rfl
    · rintro ρ ⟨found, longer, x6, _, e1, e2, rfl⟩
      rw [List.filter_nil, List.append_nil] at e1
      rw [List.flatMap_nil, List.append_nil] at e2
      subst e1 e2
      dsimp only [mRet, mSeq, mIf, mSet, mSetO, mCB, mACons, mANil, mOp, mC, mCall, mDrop, mTst, mTru, mNot, mAnd, mOr, mAndV, mOrV, mNotV, mIfE, mLst, mTup, mLCons, mLNil, mDat, mNext, mChain, mIsi, mIsi2, mLc, mLc2, mWalk, mWalkD, mWalkS, mRng1, mRng2, mgN, mgT, mgCons, mgNil, mAsg, mFld, mProp, mMeth, mLenSet, mSortLR, mDGet, mDisp, mApp, mExt, mFor, mRetO, mPar2, mSto, mCallR, mFldS, mNever, mYes, mLenScr, mAs, mDrI, mDrS, mCells, mWalkScr, mDrPop, mAppPop, mSl, mOSome, mONone, mRev, mJoin, mFrz, mCallO, mSetCD, mDGetO, mDPutO, mFrzD, mAsgPop, mCallF, mSetF, mPar2F, mAppF, mAppF1, mBest, mIsi2V, mRng3, mReprL, mIndex, mAppT]
      exact var_at rfl rfl ⟨_, false, _, rfl, rfl, _, rfl, nx _ ⟨k + 1, _, _, by omega, hk5, rfl⟩⟩
    · unfold hitsTo
      rw [upTo_succ, List.filter_append, lline_hit ha okh.ok]
end
end GL
end
section
set_option linter.all false
set_option maxRecDepth 100000
set_option maxHeartbeats 4000000
namespace GL
open PySem L2 PySem.W PyProof.Rows
variable [TabCx]
/-- a model's web, ascending -/
structure MdOk (ps : List Str) (hs : List (Str × Str)) : Prop where
  ok : OkPs ps
  okh : OkHs ps hs
  sp : ps.Pairwise fun a b => leS a b = true
  sh : hs.Pairwise fun a b => leH a b = true
theorem MdOk.n {ps : List Str} {hs : List (Str × Str)} (h : MdOk ps hs) : sortN ps = ps := List.mergeSort_of_pairwise h.sp
theorem MdOk.h {ps : List Str} {hs : List (Str × Str)} (h : MdOk ps hs) : sortH hs = hs := List.mergeSort_of_pairwise h.sh
theorem OkPs.perm {ps qs : List Str} (h : OkPs ps) (p : qs.Perm ps) : OkPs qs := ⟨by rw [p.length_eq]; exact h.two, by rw [p.length_eq]; exact h.six, fun x hx => h.nm x (p.mem_iff.mp hx), p.nodup_iff.mpr h.nd⟩
theorem OkH.perm {ps qs : List Str} {h : Str × Str} (o : OkH ps h) (p : qs.Perm ps) : OkH qs h := ⟨p.mem_iff.mpr o.a, p.mem_iff.mpr o.b, o.ne⟩
theorem OkHs.perm {ps qs : List Str} {hs gs : List (Str × Str)} (h : OkHs ps hs) (p : qs.Perm ps) (q : gs.Perm hs) : OkHs qs gs := ⟨by rw [q.length_eq]; exact h.one, by rw [q.length_eq]; exact h.twelve, fun x hx => (h.ok x (q.mem_iff.mp hx)).perm p, q.nodup_iff.mpr h.nd⟩
section
variable {K : PySem.W.Frag} {C : Addr} {zs : List Z} {P : Z → Prop}
def S__law_web (C : Addr) : Spc := fun zs P => ∃ ps hs, zs = [.d (mdD ps hs)] ∧ MdOk ps hs ∧ P (.d (webD C ps hs))
theorem r__law_web (h : S__law_web C zs P) : m__law_web K C (S_Web C) { nx := fun _ => P (.d .non), rt := P } (startG N__law_web zs) := by
  obtain ⟨ps, hs, rfl, ok, p⟩ := h
  dsimp only [m__law_web, mRet, mSeq, mIf, mSet, mSetO, mCB, mACons, mANil, mOp, mC, mCall, mDrop, mTst, mTru, mNot, mAnd, mOr, mAndV, mOrV, mNotV, mIfE, mLst, mTup, mLCons, mLNil, mDat, mNext, mChain, mIsi, mIsi2, mLc, mLc2, mWalk, mWalkD, mWalkS, mRng1, mRng2, mgN, mgT, mgCons, mgNil, mAsg, mFld, mProp, mMeth, mLenSet, mSortLR, mDGet, mDisp, mApp, mExt, mFor, mRetO, mPar2, mSto, mCallR, mFldS, mNever, mYes, mLenScr, mAs, mDrI, mDrS, mCells, mWalkScr, mDrPop, mAppPop, mSl, mOSome, mONone, mRev, mJoin, mFrz, mCallO, mSetCD, mDGetO, mDPutO, mFrzD, mAsgPop, mCallF, mSetF, mPar2F, mAppF, mAppF1, mBest, mIsi2V, mRng3, mReprL, mIndex, mAppT]
  refine var_at rfl rfl ⟨_, rfl, _, _, _, rfl, md_dots, _, _, _, rfl, rfl, _, rfl, ?_⟩
  refine var_at rfl rfl ⟨_, rfl, _, _, _, rfl, md_ties, _, _, _, rfl, rfl, _, rfl, ?_⟩
  have p1 : ps.reverse.Perm ps := List.reverse_perm ps
  have p2 : hs.reverse.Perm hs := List.reverse_perm hs
  refine ⟨_, _, ps.reverse, hs.reverse, rfl, by rw [List.map_reverse]; exact .b _, by rw [List.map_reverse]; exact .b _, ok.ok.perm p1, ok.okh.perm p1 p2, ?_⟩
  rw [show sortN ps.reverse = ps from linS.same p1 ok.sp, show sortH hs.reverse = hs from linH.same p2 ok.sh]
  exact p
def pairs (ns : List Str) : List (Str × Str) := ns.flatMap fun a => (ns.filter fun b => decide (b ≠ a)).map fun b => (a, b)
def S__law_pairs : Spc := fun zs P => ∃ ns : List Str, zs = [.d (.lst (ns.map D.str))] ∧ (∀ x ∈ ns, OkN x) ∧ ns.length ≤ 6 ∧ P (.d (.lst ((pairs ns).map hD)))
theorem r__law_pairs (h : S__law_pairs zs P) : m__law_pairs K C { nx := fun _ => P (.d .non), rt := P } (startG N__law_pairs zs) := by
  obtain ⟨ns, rfl, ok, hl, p⟩ := h
  dsimp only [m__law_pairs, mRet, mSeq, mIf, mSet, mSetO, mCB, mACons, mANil, mOp, mC, mCall, mDrop, mTst, mTru, mNot, mAnd, mOr, mAndV, mOrV, mNotV, mIfE, mLst, mTup, mLCons, mLNil, mDat, mNext, mChain, mIsi, mIsi2, mLc, mLc2, mWalk, mWalkD, mWalkS, mRng1, mRng2, mgN, mgT, mgCons, mgNil, mAsg, mFld, mProp, mMeth, mLenSet, mSortLR, mDGet, mDisp, mApp, mExt, mFor, mRetO, mPar2, mSto, mCallR, mFldS, mNever, mYes, mLenScr, mAs, mDrI, mDrS, mCells, mWalkScr, mDrPop, mAppPop, mSl, mOSome, mONone, mRev, mJoin, mFrz, mCallO, mSetCD, mDGetO, mDPutO, mFrzD, mAsgPop, mCallF, mSetF, mPar2F, mAppF, mAppF1, mBest, mIsi2V, mRng3, mReprL, mIndex, mAppT]
  refine ⟨(by show 0 ≤ sizeLine; decide), _, rfl, ?_⟩
  refine var_at rfl rfl ⟨_, rfl, false, _, rfl, ?_⟩
  refine for_list D.str (fun rest ρ => ∃ acc x2, (∀ x ∈ rest, x ∈ ns) ∧ acc.length + rest.length * 6 ≤ 36 ∧ acc ++ rest.flatMap (fun a => (ns.filter fun b => decide (b ≠ a)).map fun b => (a, b)) = pairs ns ∧
    ρ = [some (.d (.lst (ns.map D.str))), some (.d (.lst (acc.map hD))), x2, none]) ?_ ?_ ns _ ⟨[], none, fun x hx => hx, by simp; omega, rfl, rfl⟩
  · rintro a rest ρ Nx ⟨acc, x2, sub, hb, e, rfl⟩ nx
    rw [List.length_cons] at hb
    dsimp only [mRet, mSeq, mIf, mSet, mSetO, mCB, mACons, mANil, mOp, mC, mCall, mDrop, mTst, mTru, mNot, mAnd, mOr, mAndV, mOrV, mNotV, mIfE, mLst, mTup, mLCons, mLNil, mDat, mNext, mChain, mIsi, mIsi2, mLc, mLc2, mWalk, mWalkD, mWalkS, mRng1, mRng2, mgN, mgT, mgCons, mgNil, mAsg, mFld, mProp, mMeth, mLenSet, mSortLR, mDGet, mDisp, mApp, mExt, mFor, mRetO, mPar2, mSto, mCallR, mFldS, mNever, mYes, mLenScr, mAs, mDrI, mDrS, mCells, mWalkScr, mDrPop, mAppPop, mSl, mOSome, mONone, mRev, mJoin, mFrz, mCallO, mSetCD, mDGetO, mDPutO, mFrzD, mAsgPop, mCallF, mSetF, mPar2F, mAppF, mAppF1, mBest, mIsi2V, mRng3, mReprL, mIndex, mAppT]
    refine var_at rfl rfl (var_at rfl rfl ⟨false, _, rfl, ?_⟩)
    have fl := List.length_filter_le (fun b => decide (b ≠ a)) ns
    refine lc_listF D.str (fun b => decide (b ≠ a)) hD (fun b => (a, b)) ns [] (fun b hb Pt Pf k => ?_) (small (by rw [List.length_nil]; omega)) ?_
    · dsimp only [mRet, mSeq, mIf, mSet, mSetO, mCB, mACons, mANil, mOp, mC, mCall, mDrop, mTst, mTru, mNot, mAnd, mOr, mAndV, mOrV, mNotV, mIfE, mLst, mTup, mLCons, mLNil, mDat, mNext, mChain, mIsi, mIsi2, mLc, mLc2, mWalk, mWalkD, mWalkS, mRng1, mRng2, mgN, mgT, mgCons, mgNil, mAsg, mFld, mProp, mMeth, mLenSet, mSortLR, mDGet, mDisp, mApp, mExt, mFor, mRetO, mPar2, mSto, mCallR, mFldS, mNever, mYes, mLenScr, mAs, mDrI, mDrS, mCells, mWalkScr, mDrPop, mAppPop, mSl, mOSome, mONone, mRev, mJoin, mFrz, mCallO, mSetCD, mDGetO, mDPutO, mFrzD, mAsgPop, mCallF, mSetF, mPar2F, mAppF, mAppF1, mBest, mIsi2V, mRng3, mReprL, mIndex, mAppT]
      refine var_at rfl rfl (var_at rfl rfl (fEq_of rfl rfl (ok b hb).nice (ok a (sub a List.mem_cons_self)).nice _ (eqv_str _ _) (p := ⟨_, rfl, ?_⟩)))
      by_cases c : b = a
      · rw [if_neg (by simpa using c)] at k
        rw [decide_eq_true c, if_neg (by decide)]
        exact k
      · rw [if_pos (by simpa using c)] at k
        rw [decide_eq_false c, if_pos (by decide)]
        exact var_at rfl rfl ⟨_, rfl, var_at rfl rfl ⟨_, rfl, (by show 2 ≤ sizeLine; decide), _, rfl, k⟩⟩
    · rw [List.nil_append]
      refine ⟨_, _, rfl, rfl, small (by rw [List.length_map, List.length_map, List.length_map]; omega), _, rfl, nx _ ⟨acc ++ (ns.filter fun b => decide (b ≠ a)).map fun b => (a, b), some (.d (.str a)), fun x hx => sub x (List.mem_cons_of_mem _ hx), by rw [List.length_append, List.length_map]; omega, by rw [List.append_assoc]; exact e, ?_⟩⟩
      rw [List.map_append]
      rfl
  · rintro ρ ⟨acc, x2, _, _, e, rfl⟩
    rw [List.flatMap_nil, List.append_nil] at e
    subst e
    exact var_at rfl rfl p
/-! ### draws -/
def S__law_take : Spc := fun zs P => ∃ n : Int, zs = [.drw, .d (.int n)] ∧ 0 < n ∧ n ≤ 1000000 ∧ ∀ r : Int, 0 ≤ r → r < n → P (.d (.int r))
def S__law_mixed : Spc := fun zs P => ∃ z xs, zs = [.drw, z] ∧ (Sq z xs ∨ z = .d (.lst xs)) ∧ xs.length ≤ 2000 ∧ (∀ x ∈ xs, Nice 3 x) ∧ ∀ ys, ys.Perm xs → P (.own ys)
def S__law_pick : Spc := fun zs P => (∃ z xs, zs = [.drw, z] ∧ (Sq z xs ∨ z = .d (.lst xs)) ∧ xs ≠ [] ∧ xs.length ≤ 1000000 ∧ ∀ x ∈ xs, P (.d x)) ∨ ∃ x : Str, zs = [.drw, .d (.str x)] ∧ 1 ≤ x.length ∧ x.length ≤ 1000000 ∧ ∀ c ∈ x.cps.toList, P (.d (.str ⟨#[c]⟩))
theorem atI_in {α : Type} {xs : List α} {r : Int} (h0 : 0 ≤ r) (h : r < xs.length) : ∃ x, x ∈ xs ∧ atI xs r = some x := by
  obtain ⟨j, rfl⟩ := Int.eq_ofNat_of_zero_le h0
  have hj : j < xs.length := by omega
  exact ⟨xs[j], List.getElem_mem hj, atI_nat (List.getElem?_eq_getElem hj)⟩
theorem r__law_pick (h : S__law_pick zs P) : m__law_pick K C S__law_take { nx := fun _ => P (.d .non), rt := P } (startG N__law_pick zs) := by
  rcases h with ⟨z, xs, rfl, hz, ne, hl, p⟩ | ⟨x, rfl, h1, h2, p⟩
  · have pos : 0 < xs.length := List.length_pos_iff.mpr ne
    have sq : ∃ t, z.seq = some (t, xs) := by
      rcases hz with s | rfl
      · exact s.seq
      · exact ⟨_, rfl⟩
    have v1 : ∀ {x : Option G} {P : Z → Prop}, P z → mVar 1 [x, z.toG] P := by
      obtain ⟨g, eg, gz⟩ : ∃ g, z.toG = some g ∧ g.z = some z := by
        rcases hz with s | rfl
        · exact s.var
        · exact ⟨_, rfl, rfl⟩
      exact fun q => var_at (by show some z.toG = _; rw [eg]) gz q
    dsimp only [m__law_pick, mRet, mSeq, mIf, mSet, mSetO, mCB, mACons, mANil, mOp, mC, mCall, mDrop, mTst, mTru, mNot, mAnd, mOr, mAndV, mOrV, mNotV, mIfE, mLst, mTup, mLCons, mLNil, mDat, mNext, mChain, mIsi, mIsi2, mLc, mLc2, mWalk, mWalkD, mWalkS, mRng1, mRng2, mgN, mgT, mgCons, mgNil, mAsg, mFld, mProp, mMeth, mLenSet, mSortLR, mDGet, mDisp, mApp, mExt, mFor, mRetO, mPar2, mSto, mCallR, mFldS, mNever, mYes, mLenScr, mAs, mDrI, mDrS, mCells, mWalkScr, mDrPop, mAppPop, mSl, mOSome, mONone, mRev, mJoin, mFrz, mCallO, mSetCD, mDGetO, mDPutO, mFrzD, mAsgPop, mCallF, mSetF, mPar2F, mAppF, mAppF1, mBest, mIsi2V, mRng3, mReprL, mIndex, mAppT]
    refine v1 (var_at rfl rfl (v1 (len_seq sq ⟨_, rfl, by omega, by omega, fun r h0 hr => ?_⟩)))
    obtain ⟨y, hy, e⟩ := atI_in h0 hr
    obtain ⟨t, et⟩ := sq
    exact .inl ⟨t, xs, r, y, et, rfl, e, p y hy⟩
  · have hc : x.cps.toList.length = x.length := by simp [Str.length]
    dsimp only [m__law_pick, mRet, mSeq, mIf, mSet, mSetO, mCB, mACons, mANil, mOp, mC, mCall, mDrop, mTst, mTru, mNot, mAnd, mOr, mAndV, mOrV, mNotV, mIfE, mLst, mTup, mLCons, mLNil, mDat, mNext, mChain, mIsi, mIsi2, mLc, mLc2, mWalk, mWalkD, mWalkS, mRng1, mRng2, mgN, mgT, mgCons, mgNil, mAsg, mFld, mProp, mMeth, mLenSet, mSortLR, mDGet, mDisp, mApp, mExt, mFor, mRetO, mPar2, mSto, mCallR, mFldS, mNever, mYes, mLenScr, mAs, mDrI, mDrS, mCells, mWalkScr, mDrPop, mAppPop, mSl, mOSome, mONone, mRev, mJoin, mFrz, mCallO, mSetCD, mDGetO, mDPutO, mFrzD, mAsgPop, mCallF, mSetF, mPar2F, mAppF, mAppF1, mBest, mIsi2V, mRng3, mReprL, mIndex, mAppT]
    refine var_at rfl rfl (var_at rfl rfl (var_at rfl rfl (len_txt (small h2) ⟨_, rfl, by omega, by omega, fun r h0 hr => ?_⟩)))
    obtain ⟨c, hc', e⟩ := atI_in (xs := x.cps.toList) h0 (by rw [hc]; exact hr)
    exact .inr ⟨x, r, c, rfl, rfl, small h2, e, p c hc'⟩
end
end GL
end
section
set_option linter.all false
set_option maxRecDepth 100000
set_option maxHeartbeats 4000000
namespace GL
open PySem L2 PySem.W PyProof.Rows
variable [TabCx]
/-- a comprehension whose items are any of a kind -/
theorem lc_any {α β : Type} {g : D → Env → (Env → Prop) → Prop} {mt : GMT} {md : GMD} {ρ : Env} {P : List D → Prop} (e : α → D) (Qy : β → Prop) (q : β → D) : ∀ (as : List α) (acc : List D),
    (∀ a ∈ as, ∀ (Pt : D → Prop) (Pf : Prop), (∀ y, Qy y → Pt (q y)) → g (e a) ρ fun ρ1 => mt ρ1 fun b => if b = true then md ρ1 Pt else Pf) → acc.length + as.length ≤ sizeLine → (∀ ys : List β, ys.length = as.length → (∀ y ∈ ys, Qy y) → P (acc ++ ys.map q)) → mLcL g mt md (as.map e) ρ acc P
  | [], acc, _, _, h => by
    have := h [] rfl fun _ h => nomatch h
    show P acc
    simpa using this
  | a :: as, acc, H, hl, h => by
    have hl' : acc.length + (as.length + 1) ≤ sizeLine := by simpa using hl
    refine H a List.mem_cons_self _ _ fun y hy => ⟨by omega, ?_⟩
    refine lc_any e Qy q as _ (fun b hb => H b (List.mem_cons_of_mem _ hb)) (by simp; omega) fun ys hn hys => ?_
    have := h (y :: ys) (by simp [hn]) fun z hz => by
      rcases List.mem_cons.mp hz with rfl | hz
      · exact hy
      · exact hys z hz
    simpa using this
/-! ### texts -/
theorem cps_append (a b : Str) : (a ++ b).cps.toList = a.cps.toList ++ b.cps.toList := by
  show (a.cps ++ b.cps).toList = _
  simp
theorem len_cps (a : Str) : a.cps.toList.length = a.length := by simp [Str.length]
theorem joinL_nil : ∀ ps : List (List Nat), TL.joinL [] ps = ps.flatten
  | [] => rfl
  | [p] => by simp [TL.joinL]
  | p :: q :: r => by
    rw [TL.joinL, joinL_nil (q :: r)]
    simp
theorem join_cps (ys : List Str) : (Txt.join "" ys).cps.toList = (ys.map fun y => y.cps.toList).flatten := by
  rw [TL.join_eq]
  have := TL.tl_join "" ys
  rw [show TL.tl ("" : Str) = [] from rfl, joinL_nil] at this
  exact this
theorem cut5_cps (x : Str) : (cutS x none (some 5)).cps.toList = x.cps.toList.take (min 5 x.length) := by
  unfold cutS
  rw [show (5 : Int) = ((5 : Nat) : Int) from rfl, HT.sIx_nat, HT.sIx_none]
  simp
def oneC (c : Nat) : Str := ⟨#[c]⟩
theorem okN_lit {x : Str} (h1 : 1 ≤ x.length := by decide) (h2 : x.length ≤ 6 := by decide) (h3 : ∀ c ∈ x.cps.toList, c ∈ letters := by decide +kernel) : OkN x := ⟨h1, h2, h3⟩
theorem okN_near {x : Str} {c : Nat} (h : OkN x) (hc : c ∈ letters) : OkN (cutS x none (some 5) ++ oneC c) := by
  have e : (cutS x none (some 5) ++ oneC c).cps.toList = x.cps.toList.take (min 5 x.length) ++ [c] := by rw [cps_append, cut5_cps]; rfl
  have l : (cutS x none (some 5) ++ oneC c).length = (x.cps.toList.take (min 5 x.length) ++ [c]).length := by rw [← e, len_cps]
  refine ⟨by rw [l]; simp, by rw [l]; simp; omega, fun d hd => ?_⟩
  rw [e] at hd
  rcases List.mem_append.mp hd with z | z
  · exact h.az d (List.mem_of_mem_take z)
  · rw [List.mem_singleton.mp z]; exact hc
theorem near_inj {x : Str} {c d : Nat} (h : cutS x none (some 5) ++ oneC c = cutS x none (some 5) ++ oneC d) : c = d := by
  have := congrArg (fun y : Str => y.cps.toList) h
  simp only [cps_append] at this
  have := List.append_cancel_left this
  exact (List.cons.inj this).1
def near (x : Str) : List Str := x :: letters.map fun c => cutS x none (some 5) ++ oneC c
theorem near_ok {x : Str} (h : OkN x) : ∀ y ∈ near x, OkN y := fun y hy => by
  rcases List.mem_cons.mp hy with rfl | hy
  · exact h
  · obtain ⟨c, hc, rfl⟩ := List.mem_map.mp hy
    exact okN_near h hc
theorem letters_nd : letters.Nodup := by decide +kernel
theorem letters_len : letters.length = 26 := by decide +kernel
/-- among the near words one is new -/
theorem near_new {x : Str} {found : List Str} (hf : found.length ≤ 6) : (near x).filter (fun y => decide (y ∉ found)) ≠ [] := by
  intro h
  have all : ∀ y ∈ near x, y ∈ found := fun y hy => by
    have := List.filter_eq_nil_iff.mp h y hy
    simpa using this
  have nd : (letters.map fun c => cutS x none (some 5) ++ oneC c).Nodup := List.Pairwise.map _ (fun a b ne e => ne (near_inj e)) letters_nd
  have := nodup_sub_len nd fun y hy => all y (List.mem_cons_of_mem _ hy)
  rw [List.length_map, letters_len] at this
  omega
section
variable {K : PySem.W.Frag} {C : Addr} {zs : List Z} {P : Z → Prop}
def S__law_names : Spc := fun zs P => ∃ n : Nat, zs = [.drw, .d (.int n)] ∧ n ≤ 6 ∧ ∀ ns : List Str, ns.length = n → (∀ x ∈ ns, OkN x) → ns.Nodup → P (.own (ns.map D.str))
theorem words_ok : ∀ x ∈ [D.str "a", D.str "b", D.str "x", D.str "lay", D.str "tick", D.str "hand", D.str "wait", D.str "party", D.str "zzzzzz"], ∃ w, x = D.str w ∧ OkN w := by
  intro x hx
  simp only [List.mem_cons, List.not_mem_nil, or_false] at hx
  rcases hx with rfl | rfl | rfl | rfl | rfl | rfl | rfl | rfl | rfl <;> exact ⟨_, rfl, okN_lit⟩
theorem r__law_names (h : S__law_names zs P) : m__law_names K C S__law_pick S__law_take { nx := fun _ => P (.d .non), rt := P } (startG N__law_names zs) := by
  obtain ⟨n, rfl, hn, p⟩ := h
  dsimp only [m__law_names, mRet, mSeq, mIf, mSet, mSetO, mCB, mACons, mANil, mOp, mC, mCall, mDrop, mTst, mTru, mNot, mAnd, mOr, mAndV, mOrV, mNotV, mIfE, mLst, mTup, mLCons, mLNil, mDat, mNext, mChain, mIsi, mIsi2, mLc, mLc2, mWalk, mWalkD, mWalkS, mRng1, mRng2, mgN, mgT, mgCons, mgNil, mAsg, mFld, mProp, mMeth, mLenSet, mSortLR, mDGet, mDisp, mApp, mExt, mFor, mRetO, mPar2, mSto, mCallR, mFldS, mNever, mYes, mLenScr, mAs, mDrI, mDrS, mCells, mWalkScr, mDrPop, mAppPop, mSl, mOSome, mONone, mRev, mJoin, mFrz, mCallO, mSetCD, mDGetO, mDPutO, mFrzD, mAsgPop, mCallF, mSetF, mPar2F, mAppF, mAppF1, mBest, mIsi2V, mRng3, mReprL, mIndex, mAppT]
  rw [if_neg (by decide)]
  refine ⟨_, rfl, (by show 0 ≤ sizeLine; decide), ?_⟩
  rw [if_pos rfl]
  refine ⟨_, rfl, var_at rfl rfl ⟨n, rfl, by omega, by omega, ?_⟩⟩
  refine for_list (fun k : Nat => D.int (0 + (k : Int))) (fun rest ρ => ∃ found : List Str, ∃ x4 x5 x6, found.length + rest.length = n ∧ (∀ x ∈ found, OkN x) ∧ found.Nodup ∧
    ρ = [some .drw, some (.d (.int n)), some (.d (.str "abcdefghijklmnopqrstuvwxyz")), some (.own (found.map D.str)), x4, x5, x6, none, none, none]) ?_ ?_ (List.range n) _ ⟨[], none, none, none, by simp, by simp, by simp, rfl⟩
  · rintro k rest ρ Nx ⟨found, x4, x5, x6, hc, okf, nd, rfl⟩ nx
    rw [List.length_cons] at hc
    -- behind the word's choice
    have tail : ∀ w : Str, OkN w → mSeq (mSet 6 (mOp fAdd (mLst (mLCons (mDat (mVar 5)) mLNil)) (mLc (mWalkS (mVar 2)) (mgN 7) mYes (mDat (mOp fAdd (mSl (mVar 5) mONone (mOSome (mC (.int 5)))) (mVar 7))) (List.map (fun x => x.2) ([("_law_letter", 7)] : List (Str × Nat)))))) (mApp 3 (mDat (mOp fIx (mLc (mWalk (mVar 6)) (mgN 9) (mTst (mOp (fIn true) (mVar 9) (mVar 3))) (mDat (mVar 9)) (List.map (fun x => x.2) ([("_law_one", 9)] : List (Str × Nat)))) (mC (.int 0)))))
        { nx := Nx, rt := P, bk := mRetO 3 { nx := fun _ => P (.d .non), rt := P }, ct := Nx } [some .drw, some (.d (.int n)), some (.d (.str "abcdefghijklmnopqrstuvwxyz")), some (.own (found.map D.str)), some (.d (.int (0 + (k : Int)))), some (.d (.str w)), x6, none, none, none] := by
      intro w okw
      have w6 := okw.six
      dsimp only [mRet, mSeq, mIf, mSet, mSetO, mCB, mACons, mANil, mOp, mC, mCall, mDrop, mTst, mTru, mNot, mAnd, mOr, mAndV, mOrV, mNotV, mIfE, mLst, mTup, mLCons, mLNil, mDat, mNext, mChain, mIsi, mIsi2, mLc, mLc2, mWalk, mWalkD, mWalkS, mRng1, mRng2, mgN, mgT, mgCons, mgNil, mAsg, mFld, mProp, mMeth, mLenSet, mSortLR, mDGet, mDisp, mApp, mExt, mFor, mRetO, mPar2, mSto, mCallR, mFldS, mNever, mYes, mLenScr, mAs, mDrI, mDrS, mCells, mWalkScr, mDrPop, mAppPop, mSl, mOSome, mONone, mRev, mJoin, mFrz, mCallO, mSetCD, mDGetO, mDPutO, mFrzD, mAsgPop, mCallF, mSetF, mPar2F, mAppF, mAppF1, mBest, mIsi2V, mRng3, mReprL, mIndex, mAppT]
      refine var_at rfl rfl ⟨_, rfl, (by show 1 ≤ sizeLine; decide), var_at rfl rfl ⟨_, rfl, ?_⟩⟩
      refine lc_list (fun c : Nat => D.str ⟨#[c]⟩) (fun _ => true) D.str (fun c => cutS w none (some 5) ++ oneC c) letters [] (fun c hc Pt Pf k => ?_) (small (by rw [letters_len]; decide)) ?_
      · dsimp only [mRet, mSeq, mIf, mSet, mSetO, mCB, mACons, mANil, mOp, mC, mCall, mDrop, mTst, mTru, mNot, mAnd, mOr, mAndV, mOrV, mNotV, mIfE, mLst, mTup, mLCons, mLNil, mDat, mNext, mChain, mIsi, mIsi2, mLc, mLc2, mWalk, mWalkD, mWalkS, mRng1, mRng2, mgN, mgT, mgCons, mgNil, mAsg, mFld, mProp, mMeth, mLenSet, mSortLR, mDGet, mDisp, mApp, mExt, mFor, mRetO, mPar2, mSto, mCallR, mFldS, mNever, mYes, mLenScr, mAs, mDrI, mDrS, mCells, mWalkScr, mDrPop, mAppPop, mSl, mOSome, mONone, mRev, mJoin, mFrz, mCallO, mSetCD, mDGetO, mDPutO, mFrzD, mAsgPop, mCallF, mSetF, mPar2F, mAppF, mAppF1, mBest, mIsi2V, mRng3, mReprL, mIndex, mAppT]
        refine var_at rfl rfl ⟨5, rfl, small (by omega), var_at rfl rfl ⟨small ?_, _, rfl, k⟩⟩
        have := cutS_length w none (some 5)
        show _ + 1 ≤ _
        omega
      · rw [filter_yes, List.nil_append]
        refine ⟨_, _, rfl, rfl, small (by rw [List.length_map, List.length_map, letters_len]; show 1 + 26 ≤ _; decide), _, rfl, ?_⟩
        refine ⟨_, rfl, ?_⟩
        have en : [D.str w] ++ (letters.map fun c => cutS w none (some 5) ++ oneC c).map D.str = (near w).map D.str := rfl
        rw [en]
        refine var_at rfl rfl ⟨false, _, rfl, ?_⟩
        refine lc_list D.str (fun y => decide (y ∉ found)) D.str id (near w) [] (fun y hy Pt Pf k => ?_) (small (by unfold near; simp [letters_len])) ?_
        · dsimp only [mRet, mSeq, mIf, mSet, mSetO, mCB, mACons, mANil, mOp, mC, mCall, mDrop, mTst, mTru, mNot, mAnd, mOr, mAndV, mOrV, mNotV, mIfE, mLst, mTup, mLCons, mLNil, mDat, mNext, mChain, mIsi, mIsi2, mLc, mLc2, mWalk, mWalkD, mWalkS, mRng1, mRng2, mgN, mgT, mgCons, mgNil, mAsg, mFld, mProp, mMeth, mLenSet, mSortLR, mDGet, mDisp, mApp, mExt, mFor, mRetO, mPar2, mSto, mCallR, mFldS, mNever, mYes, mLenScr, mAs, mDrI, mDrS, mCells, mWalkScr, mDrPop, mAppPop, mSl, mOSome, mONone, mRev, mJoin, mFrz, mCallO, mSetCD, mDGetO, mDPutO, mFrzD, mAsgPop, mCallF, mSetF, mPar2F, mAppF, mAppF1, mBest, mIsi2V, mRng3, mReprL, mIndex, mAppT]
          refine var_at rfl rfl (var_at rfl rfl (in_strs (near_ok okw y hy) okf ⟨_, rfl⟩ (decide (y ∈ found)) rfl true ⟨_, rfl, ?_⟩))
          by_cases c : y ∈ found
          · rw [if_neg (by simpa using c)] at k
            rw [decide_eq_true c]
            exact k
          · rw [if_pos (by simpa using c)] at k
            rw [decide_eq_false c]
            exact var_at rfl rfl ⟨_, rfl, k⟩
        · rw [List.map_id, List.nil_append]
          cases e : (near w).filter fun y => decide (y ∉ found) with
          | nil => exact absurd e (near_new (by omega))
          | cons y r =>
            have hy : y ∈ (near w).filter fun y => decide (y ∉ found) := by rw [e]; exact List.mem_cons_self
            obtain ⟨hy1, hy2⟩ := List.mem_filter.mp hy
            refine ⟨false, _, 0, _, rfl, rfl, atI_nat (j := 0) rfl, _, rfl, small (by rw [List.length_map]; omega), nx _ ⟨found ++ [y], some (.d (.int (0 + (k : Int)))), some (.d (.str w)), some (.d (.lst ((near w).map D.str))), by rw [List.length_append]; simp; omega, fun x hx => ?_, ?_, ?_⟩⟩
            · rcases List.mem_append.mp hx with z | z
              · exact okf x z
              · rw [List.mem_singleton.mp z]; exact near_ok okw y hy1
            · rw [List.nodup_append]
              refine ⟨nd, by simp, fun u hu v hv e => ?_⟩
              rw [List.mem_singleton.mp hv] at e
              rw [e] at hu
              exact (by simpa using hy2 : y ∉ found) hu
            · rw [List.map_append]
              rfl
    dsimp only [mRet, mSeq, mIf, mSet, mSetO, mCB, mACons, mANil, mOp, mC, mCall, mDrop, mTst, mTru, mNot, mAnd, mOr, mAndV, mOrV, mNotV, mIfE, mLst, mTup, mLCons, mLNil, mDat, mNext, mChain, mIsi, mIsi2, mLc, mLc2, mWalk, mWalkD, mWalkS, mRng1, mRng2, mgN, mgT, mgCons, mgNil, mAsg, mFld, mProp, mMeth, mLenSet, mSortLR, mDGet, mDisp, mApp, mExt, mFor, mRetO, mPar2, mSto, mCallR, mFldS, mNever, mYes, mLenScr, mAs, mDrI, mDrS, mCells, mWalkScr, mDrPop, mAppPop, mSl, mOSome, mONone, mRev, mJoin, mFrz, mCallO, mSetCD, mDGetO, mDPutO, mFrzD, mAsgPop, mCallF, mSetF, mPar2F, mAppF, mAppF1, mBest, mIsi2V, mRng3, mReprL, mIndex, mAppT]
    refine var_at rfl rfl ⟨_, rfl, _, rfl, _, rfl, _, rfl, _, rfl, _, rfl, _, rfl, _, rfl, _, rfl, (by show 9 ≤ sizeLine; decide), ?_⟩
    refine .inl ⟨_, _, rfl, .inl (.b _), by simp, (by show 9 ≤ 1000000; decide), fun x hx => ?_⟩
    obtain ⟨w, rfl, okw⟩ := words_ok x hx
    refine ⟨_, rfl, ?_⟩
    refine var_at rfl rfl ⟨2, rfl, by decide, by decide, fun r h0 h1 => ?_⟩
    refine fEq_of rfl rfl (Nice.int (by omega)) (Nice.int (by decide)) _ (eqv_int _ _) (p := ⟨_, rfl, ?_⟩)
    by_cases c : r = 0
    · rw [decide_eq_true c, if_pos (by decide)]
      refine ⟨_, rfl, var_at rfl rfl ⟨6, rfl, by decide, by decide, fun q q0 q1 => ⟨_, rfl, by omega, by omega, ?_⟩⟩⟩
      obtain ⟨m, em⟩ := Int.eq_ofNat_of_zero_le q0
      rw [show (1 + q).toNat = 1 + m by omega]
      refine lc_any (fun k : Nat => D.int (0 + (k : Int))) (fun y : Str => ∃ c ∈ letters, y = oneC c) D.str (List.range (1 + m)) [] (fun k hk Pt Pf h => ?_) (small (by simp; omega)) fun ys hl hys => ?_
      · dsimp only [mRet, mSeq, mIf, mSet, mSetO, mCB, mACons, mANil, mOp, mC, mCall, mDrop, mTst, mTru, mNot, mAnd, mOr, mAndV, mOrV, mNotV, mIfE, mLst, mTup, mLCons, mLNil, mDat, mNext, mChain, mIsi, mIsi2, mLc, mLc2, mWalk, mWalkD, mWalkS, mRng1, mRng2, mgN, mgT, mgCons, mgNil, mAsg, mFld, mProp, mMeth, mLenSet, mSortLR, mDGet, mDisp, mApp, mExt, mFor, mRetO, mPar2, mSto, mCallR, mFldS, mNever, mYes, mLenScr, mAs, mDrI, mDrS, mCells, mWalkScr, mDrPop, mAppPop, mSl, mOSome, mONone, mRev, mJoin, mFrz, mCallO, mSetCD, mDGetO, mDPutO, mFrzD, mAsgPop, mCallF, mSetF, mPar2F, mAppF, mAppF1, mBest, mIsi2V, mRng3, mReprL, mIndex, mAppT]
        exact var_at rfl rfl (var_at rfl rfl (.inr ⟨_, rfl, by decide, by decide, fun c hc => ⟨_, rfl, h _ ⟨c, hc, rfl⟩⟩⟩))
      · rw [List.length_range] at hl
        have len1 : ∀ y ∈ ys, y.length = 1 := fun y hy => by
          obtain ⟨c, _, rfl⟩ := hys y hy
          rfl
        have sum1 : (ys.map (·.length)).sum = ys.length := by
          clear hl
          induction ys with
          | nil => rfl
          | cons y ys ih =>
            rw [List.map_cons, List.sum_cons, List.length_cons, len1 y List.mem_cons_self, ih (fun z hz => hys z (List.mem_cons_of_mem _ hz)) fun z hz => len1 z (List.mem_cons_of_mem _ hz)]
            omega
        refine ⟨false, ys, rfl, ?_, _, rfl, tail _ ?_⟩
        · rw [sum1]
          show ys.length + ys.length * 0 ≤ _
          omega
        · have jl : (Txt.join "" ys).cps.toList.length = ys.length := by
            rw [join_cps, List.length_flatten, List.map_map]
            rw [show ((fun l : List Nat => l.length) ∘ fun y : Str => y.cps.toList) = (·.length) from funext fun y => len_cps y, sum1]
          refine ⟨by rw [← len_cps, jl]; omega, by rw [← len_cps, jl]; omega, fun d hd => ?_⟩
          rw [join_cps] at hd
          obtain ⟨l, hl2, hd2⟩ := List.mem_flatten.mp hd
          obtain ⟨y, hy, rfl⟩ := List.mem_map.mp hl2
          obtain ⟨c, hc, rfl⟩ := hys y hy
          rw [show d = c from List.mem_singleton.mp hd2]
          exact hc
    · rw [decide_eq_false c, if_neg (by decide)]
      exact tail w okw
  · rintro ρ ⟨found, x4, x5, x6, hc, okf, nd, rfl⟩
    exact ⟨_, rfl, p found (by simpa using hc) okf nd⟩
end
end GL
end
section
set_option linter.all false
set_option maxRecDepth 100000
set_option maxHeartbeats 4000000
namespace GL
open PySem L2 PySem.W PyProof.Rows
variable [TabCx]
theorem perm_map_of {α β : Type} {f : α → β} {ys zs : List β} (h : ys.Perm zs) : ∀ xs : List α, zs = xs.map f → ∃ xs' : List α, ys = xs'.map f ∧ xs'.Perm xs := by
  induction h with
  | nil => intro xs e; exact ⟨xs, e, .refl _⟩
  | cons x _ ih =>
    intro xs e
    cases xs with
    | nil => cases e
    | cons a as =>
      obtain ⟨e1, e2⟩ := List.cons.inj e
      obtain ⟨xs', h1, h2⟩ := ih as e2
      exact ⟨a :: xs', by rw [List.map_cons, ← h1, e1], h2.cons a⟩
  | swap x y l =>
    intro xs e
    match xs, e with
    | a :: b :: as, e =>
      obtain ⟨e1, e2⟩ := List.cons.inj e
      obtain ⟨e3, e4⟩ := List.cons.inj e2
      exact ⟨b :: a :: as, by simp [e1, e3, e4], .swap _ _ _⟩
  | trans _ _ ih1 ih2 =>
    intro xs e
    obtain ⟨x1, h1, h2⟩ := ih2 xs e
    obtain ⟨x2, h3, h4⟩ := ih1 x1 h1
    exact ⟨x2, h3, h4.trans h2⟩
theorem nice_hDs {ps : List Str} {hs : List (Str × Str)} (ok : OkPs ps) (h : ∀ x ∈ hs, OkH ps x) : ∀ d ∈ hs.map hD, Nice 3 d := fun d hd => by
  obtain ⟨x, hx, rfl⟩ := List.mem_map.mp hd
  exact ((h x hx).nice ok.nm).mono (by decide)
theorem nice_strs {ns : List Str} (h : ∀ x ∈ ns, OkN x) : ∀ d ∈ ns.map D.str, Nice 3 d := fun d hd => by
  obtain ⟨x, hx, rfl⟩ := List.mem_map.mp hd
  exact (h x hx).nice.mono (by decide)
/-- the handings so far -/
structure Ties (ps : List Str) (hs : List (Str × Str)) : Prop where
  ok : ∀ h ∈ hs, OkH ps h
  nd : hs.Nodup
  twelve : hs.length ≤ 12
theorem pairs_ok {ps : List Str} : ∀ h ∈ pairs ps, OkH ps h := fun h hh => by
  obtain ⟨a, ha, hb⟩ := List.mem_flatMap.mp hh
  obtain ⟨b, hc, rfl⟩ := List.mem_map.mp hb
  obtain ⟨h1, h2⟩ := List.mem_filter.mp hc
  exact ⟨ha, h1, fun e => (of_decide_eq_true h2) e.symm⟩
theorem pairs_nd {ps : List Str} (nd : ps.Nodup) : (pairs ps).Nodup := by
  have aux : ∀ qs : List Str, qs.Nodup → (qs.flatMap fun a => (ps.filter fun b => decide (b ≠ a)).map fun b => (a, b)).Nodup := by
    intro qs
    induction qs with
    | nil => intro _; exact List.nodup_nil
    | cons a qs ih =>
      intro h
      obtain ⟨h1, h2⟩ := List.nodup_cons.mp h
      rw [List.flatMap_cons, List.nodup_append]
      refine ⟨List.Pairwise.map _ (fun x y ne e => ne (Prod.mk.inj e).2) (List.Pairwise.filter _ nd), ih h2, fun x hx y hy e => ?_⟩
      obtain ⟨b, _, rfl⟩ := List.mem_map.mp hx
      obtain ⟨c, hc, hy⟩ := List.mem_flatMap.mp hy
      obtain ⟨d, _, rfl⟩ := List.mem_map.mp hy
      exact h1 (by rw [(Prod.mk.inj e).1]; exact hc)
  exact aux ps nd
theorem pairs_ne {ps : List Str} (h2 : 2 ≤ ps.length) (nd : ps.Nodup) : pairs ps ≠ [] := by
  match ps, h2, nd with
  | a :: b :: r, _, nd =>
    have ne : b ≠ a := fun e => (List.nodup_cons.mp nd).1 (by rw [e]; exact List.mem_cons_self)
    intro e
    have : (a, b) ∈ pairs (a :: b :: r) := List.mem_flatMap.mpr ⟨a, List.mem_cons_self, List.mem_map.mpr ⟨b, List.mem_filter.mpr ⟨by simp, by simpa using ne⟩, rfl⟩⟩
    rw [e] at this
    cases this
theorem pairs_len {ps : List Str} (h6 : ps.length ≤ 6) : (pairs ps).length ≤ 36 := by
  have := flat_len (xs := ps) (f := fun a => (ps.filter fun b => decide (b ≠ a)).map fun b => (a, b)) (k := 6) fun a _ => by
    rw [List.length_map]
    exact Nat.le_trans (List.length_filter_le _ _) h6
  unfold pairs
  omega
section
variable {K : PySem.W.Frag} {C : Addr} {zs : List Z} {P : Z → Prop}
def S__law_model : Spc := fun zs P => ∃ most many : Nat, zs = [.drw, .d (.int most), .d (.int many)] ∧ 2 ≤ most ∧ most ≤ 6 ∧ 1 ≤ many ∧ many ≤ 12 ∧ ∀ ps hs, MdOk ps hs → ps.length ≤ most → hs.length ≤ many → P (.d (mdD ps hs))
def model_rest (S__law_mixed S__law_pairs S__law_pick S__law_take : Spc) : GMS := (mSeq (mSet 7 (mLc (mWalk (mCall S__law_mixed (mACons (mVar 0) (mACons (mCall S__law_pairs (mACons (mVar 3) mANil)) mANil)))) (mgN 12) (mTst (mOp (fIn true) (mVar 12) (mVar 6))) (mDat (mVar 12)) (List.map (fun x => x.2) ([("_law_pair", 12)] : List (Str × Nat))))) (mSeq (mSet 8 (mCB (fMM true) (mACons (mC (.int 0)) (mACons (mOp fSub (mVar 2) (mCB fLen (mACons (mVar 6) mANil))) mANil)))) (mSeq (mSet 9 (mCall S__law_pick (mACons (mVar 0) (mACons (mLst (mLCons (mDat (mCall S__law_take (mACons (mVar 0) (mACons (mC (.int 3)) mANil)))) (mLCons (mDat (mCall S__law_take (mACons (mVar 0) (mACons (mOp fAdd (mVar 8) (mC (.int 1))) mANil)))) (mLCons (mDat (mOp fAdd (mC (.int 1)) (mCall S__law_take (mACons (mVar 0) (mACons (mC (.int 4)) mANil))))) mLNil)))) mANil)))) (mSeq (mSet 10 (mCB fMin3 (mACons (mCB fLen (mACons (mVar 7) mANil)) (mACons (mVar 8) (mACons (mVar 9) mANil))))) (mSeq (mSet 6 (mSl (mOp fAdd (mVar 6) (mSl (mVar 7) mONone (mOSome (mVar 10)))) mONone (mOSome (mVar 2)))) (mRet (mDisp ["dots", "ties"] (mLCons (mDat (mCB fSorted (mACons (mVar 3) mANil))) (mLCons (mDat (mCB fSorted (mACons (mIfE (mTst (mOp (fEq true) (mVar 6) (mLst mLNil))) (mVar 6) (mSl (mVar 7) mONone (mOSome (mC (.int 1))))) mANil))) mLNil)))))))))
theorem cut_take {xs : List D} {n : Nat} : cutD xs none (some (n : Int)) = xs.take n := by
  unfold cutD
  rw [HT.sIx_none, HT.sIx_nat]
  show List.take (min n xs.length - 0) xs = _
  rw [Nat.sub_zero, ← List.take_eq_take_min]
theorem r_model_rest {most many : Nat} {ns row : List Str} {ts : List (Str × Str)} {sort : Int} (h1 : 2 ≤ most) (h2 : most ≤ 6) (h3 : 1 ≤ many) (h4 : many ≤ 12) (okn : OkPs ns) (hn : ns.length ≤ most) (tie : Ties ns ts) {x11 x12 x13 : Option G}
    (p : ∀ ps hs, MdOk ps hs → ps.length ≤ most → hs.length ≤ many → P (.d (mdD ps hs))) : model_rest S__law_mixed S__law_pairs S__law_pick S__law_take { nx := fun _ => P (.d .non), rt := P }
      [some .drw, some (.d (.int most)), some (.d (.int many)), some (.d (.lst (ns.map D.str))), some (.d (.int sort)), some (.d (.lst (row.map D.str))), some (.d (.lst (ts.map hD))), none, none, none, none, x11, x12, x13] := by
  have t12 := tie.twelve
  have pl := pairs_len okn.six
  dsimp only [model_rest, mRet, mSeq, mIf, mSet, mSetO, mCB, mACons, mANil, mOp, mC, mCall, mDrop, mTst, mTru, mNot, mAnd, mOr, mAndV, mOrV, mNotV, mIfE, mLst, mTup, mLCons, mLNil, mDat, mNext, mChain, mIsi, mIsi2, mLc, mLc2, mWalk, mWalkD, mWalkS, mRng1, mRng2, mgN, mgT, mgCons, mgNil, mAsg, mFld, mProp, mMeth, mLenSet, mSortLR, mDGet, mDisp, mApp, mExt, mFor, mRetO, mPar2, mSto, mCallR, mFldS, mNever, mYes, mLenScr, mAs, mDrI, mDrS, mCells, mWalkScr, mDrPop, mAppPop, mSl, mOSome, mONone, mRev, mJoin, mFrz, mCallO, mSetCD, mDGetO, mDPutO, mFrzD, mAsgPop, mCallF, mSetF, mPar2F, mAppF, mAppF1, mBest, mIsi2V, mRng3, mReprL, mIndex, mAppT]
  refine var_at rfl rfl (var_at rfl rfl ⟨ns, rfl, okn.nm, okn.six, ?_⟩)
  refine ⟨_, _, rfl, .inr rfl, by rw [List.length_map]; omega, nice_hDs okn (fun h hh => pairs_ok h hh), fun ys perm => ?_⟩
  obtain ⟨mx, rfl, pm⟩ := perm_map_of perm _ rfl
  have okm : ∀ h ∈ mx, OkH ns h := fun h hh => pairs_ok h (pm.mem_iff.mp hh)
  have ndm : mx.Nodup := pm.nodup_iff.mpr (pairs_nd okn.nd)
  have lm : mx.length ≤ 36 := by rw [pm.length_eq]; exact pl
  refine ⟨false, _, rfl, ?_⟩
  refine lc_list hD (fun h => decide (h ∉ ts)) hD id mx [] (fun h hh Pt Pf k => ?_) (small (by rw [List.length_nil]; omega)) ?_
  · dsimp only [mRet, mSeq, mIf, mSet, mSetO, mCB, mACons, mANil, mOp, mC, mCall, mDrop, mTst, mTru, mNot, mAnd, mOr, mAndV, mOrV, mNotV, mIfE, mLst, mTup, mLCons, mLNil, mDat, mNext, mChain, mIsi, mIsi2, mLc, mLc2, mWalk, mWalkD, mWalkS, mRng1, mRng2, mgN, mgT, mgCons, mgNil, mAsg, mFld, mProp, mMeth, mLenSet, mSortLR, mDGet, mDisp, mApp, mExt, mFor, mRetO, mPar2, mSto, mCallR, mFldS, mNever, mYes, mLenScr, mAs, mDrI, mDrS, mCells, mWalkScr, mDrPop, mAppPop, mSl, mOSome, mONone, mRev, mJoin, mFrz, mCallO, mSetCD, mDGetO, mDPutO, mFrzD, mAsgPop, mCallF, mSetF, mPar2F, mAppF, mAppF1, mBest, mIsi2V, mRng3, mReprL, mIndex, mAppT]
    refine var_at rfl rfl (var_at rfl rfl (in_hDs okn (okm h hh) tie.ok ⟨_, rfl⟩ (decide (h ∈ ts)) rfl true ⟨_, rfl, ?_⟩))
    by_cases c : h ∈ ts
    · rw [if_neg (by simpa using c)] at k
      rw [decide_eq_true c]
      exact k
    · rw [if_pos (by simpa using c)] at k
      rw [decide_eq_false c]
      exact var_at rfl rfl ⟨_, rfl, k⟩
  rw [List.map_id, List.nil_append]
  generalize hmore : mx.filter (fun h => decide (h ∉ ts)) = more
  have lmore : more.length ≤ 36 := by
    have := List.length_filter_le (fun h => decide (h ∉ ts)) mx
    rw [hmore] at this
    omega
  have okmore : ∀ h ∈ more, OkH ns h ∧ h ∉ ts := fun h hh => by
    rw [← hmore] at hh
    obtain ⟨q1, q2⟩ := List.mem_filter.mp hh
    exact ⟨okm h q1, by simpa using q2⟩
  have ndmore : more.Nodup := by rw [← hmore]; exact List.Pairwise.filter _ ndm
  refine ⟨_, rfl, ?_⟩
  refine var_at rfl rfl (var_at rfl rfl (len_seq ⟨_, rfl⟩ ⟨_, _, rfl, rfl, 0, _, rfl, ?_⟩))
  rw [List.length_map]
  rw [if_pos rfl]
  generalize hroom : (if (many : Int) - (ts.length : Int) > 0 then (many : Int) - (ts.length : Int) else 0) = room
  have r0 : 0 ≤ room ∧ room ≤ 12 := by
    rw [← hroom]
    split <;> omega
  refine ⟨_, rfl, ?_⟩
  refine var_at rfl rfl (var_at rfl rfl ⟨3, rfl, by decide, by decide, fun w1 w10 w11 => ⟨_, rfl, ?_⟩⟩)
  refine var_at rfl rfl (var_at rfl rfl ⟨_, rfl, by omega, by omega, fun w2 w20 w21 => ⟨_, rfl, ?_⟩⟩)
  refine var_at rfl rfl ⟨4, rfl, by decide, by decide, fun w3 w30 w31 => ⟨_, rfl, (by show 3 ≤ sizeLine; decide), ?_⟩⟩
  refine .inl ⟨_, _, rfl, .inl (.b _), by simp, (by show 3 ≤ 1000000; decide), fun x hx => ?_⟩
  obtain ⟨wish, rfl, wi0, wi1⟩ : ∃ w : Int, x = D.int w ∧ 0 ≤ w ∧ w ≤ 100 := by
    simp only [List.mem_cons, List.not_mem_nil, or_false] at hx
    rcases hx with rfl | rfl | rfl
    · exact ⟨_, rfl, by omega, by omega⟩
    · exact ⟨_, rfl, by omega, by omega⟩
    · exact ⟨_, rfl, by omega, by omega⟩
  refine ⟨_, rfl, ?_⟩
  refine var_at rfl rfl (len_seq ⟨_, rfl⟩ (var_at rfl rfl (var_at rfl rfl ⟨_, _, _, rfl, ?_⟩)))
  refine ⟨_, rfl, ?_⟩
  rw [List.length_map]
  obtain ⟨size, hsize⟩ : ∃ size : Nat, min (min (more.length : Int) room) wish = (size : Int) := Int.eq_ofNat_of_zero_le (by omega)
  rw [hsize]
  refine var_at rfl rfl (var_at rfl rfl (var_at rfl rfl ⟨_, rfl, ?_⟩))
  refine ⟨_, rfl, ?_⟩
  have lt : (more.take size).length ≤ 12 := by rw [List.length_take]; omega
  rw [cut_take, ← List.map_take]
  show fAdd (.d (.lst (ts.map hD))) (.own ((more.take size).map hD)) _
  refine ⟨_, _, rfl, rfl, small (by rw [List.length_map, List.length_map]; omega), ?_⟩
  refine var_at rfl rfl ⟨_, rfl, ?_⟩
  refine ⟨_, rfl, ?_⟩
  rw [← List.map_append, cut_take, ← List.map_take]
  generalize h2e : (ts ++ more.take size).take many = ts2
  have okt2 : ∀ h ∈ ts2, OkH ns h := fun h hh => by
    rw [← h2e] at hh
    rcases List.mem_append.mp (List.mem_of_mem_take hh) with z | z
    · exact tie.ok h z
    · exact (okmore h (List.mem_of_mem_take z)).1
  have nd2 : ts2.Nodup := by
    rw [← h2e]
    refine List.Pairwise.sublist (List.take_sublist _ _) ?_
    show List.Nodup _
    rw [List.nodup_append]
    refine ⟨tie.nd, List.Pairwise.sublist (List.take_sublist _ _) ndmore, fun x hx y hy e => ?_⟩
    exact (okmore y (List.mem_of_mem_take hy)).2 (by rw [← e]; exact hx)
  have l2 : ts2.length ≤ many := by rw [← h2e, List.length_take]; omega
  have p0 : (sortN ns).Perm ns := List.mergeSort_perm _ _
  have fin : ∀ hs : List (Str × Str), (∀ h ∈ hs, OkH ns h) → hs.Nodup → 1 ≤ hs.length → hs.length ≤ many → P (.d (mdD (sortN ns) (sortH hs))) := fun hs a b c d => by
    have q0 : (sortH hs).Perm hs := List.mergeSort_perm _ _
    refine p _ _ ⟨okn.perm p0, OkHs.perm (ps := ns) (hs := hs) ⟨c, by omega, a, b⟩ p0 q0, linS.sorted _, linH.sorted _⟩ (by rw [p0.length_eq]; exact hn) (by rw [q0.length_eq]; exact d)
  refine ⟨_, rfl, ?_⟩
  refine var_at rfl rfl ?_
  refine sorted_strs (ps := ns) ⟨_, rfl⟩ okn.nm ?_
  refine ⟨_, rfl, ?_⟩
  refine var_at rfl rfl ⟨(by show 0 ≤ sizeLine; decide), ?_⟩
  refine fEq_of rfl rfl (Nice.lst (n := 1) fun x hx => ?_) (Nice.lst (n := 0) fun x hx => nomatch hx) (decide (ts2 = [])) ?_ (p := ⟨_, rfl, ?_⟩)
  · obtain ⟨h, hh, rfl⟩ := List.mem_map.mp hx
    exact (okt2 h hh).nice okn.nm
  · cases ts2 <;> simp [D.py, D.pys, PyData.eqv, PyData.eqvAll]
  · cases c : ts2 with
    | nil =>
      rw [if_neg (by simp)]
      refine var_at rfl rfl ⟨_, rfl, ⟨_, rfl, ?_⟩⟩
      rw [show (1 : Int) = ((1 : Nat) : Int) from rfl, cut_take, ← List.map_take]
      have em : ts = [] ∧ ts.length = 0 := by
        rw [c] at h2e
        have := congrArg List.length h2e
        rw [List.length_take, List.length_append] at this
        have z : ts.length = 0 := by rw [List.length_nil] at this; omega
        exact ⟨List.length_eq_zero_iff.mp z, z⟩
      have mm : more = mx := by
        rw [← hmore, em.1]
        simp
      have m1 : 1 ≤ more.length := by
        rw [mm, pm.length_eq]
        exact List.length_pos_iff.mpr (pairs_ne okn.two okn.nd)
      refine sorted_hDs (hs := more.take 1) ⟨_, rfl⟩ okn.nm (fun h hh => (okmore h (List.mem_of_mem_take hh)).1) ?_
      refine ⟨_, rfl, ?_⟩
      exact fin _ (fun h hh => (okmore h (List.mem_of_mem_take hh)).1) (List.Pairwise.sublist (List.take_sublist _ _) ndmore) (by rw [List.length_take]; omega) (by rw [List.length_take]; omega)
    | cons a l =>
      rw [if_pos (by simp)]
      rw [← c]
      refine var_at rfl rfl ?_
      refine sorted_hDs (hs := ts2) ⟨_, rfl⟩ okn.nm okt2 ?_
      refine ⟨_, rfl, ?_⟩
      exact fin _ okt2 nd2 (by rw [c]; simp) l2
theorem model_split : m__law_model K C S__law_mixed S__law_names S__law_pairs S__law_pick S__law_take = mSeq (mPar2 3 4 false false (mCall S__law_names (mACons (mVar 0) (mACons (mOp fAdd (mC (.int 2)) (mCall S__law_take (mACons (mVar 0) (mACons (mOp fSub (mVar 1) (mC (.int 1))) mANil)))) mANil))) (mCall S__law_take (mACons (mVar 0) (mACons (mC (.int 5)) mANil)))) (mSeq (mSet 5 (mCall S__law_mixed (mACons (mVar 0) (mACons (mVar 3) mANil)))) (mSeq (mSet 6 (mLc (mRng2 (mACons (mC (.int 1)) (mACons (mCB fLen (mACons (mVar 5) mANil)) mANil))) (mgN 11) mYes (mDat (mTup (mLCons (mDat (mOp fIx (mVar 5) (mOp fSub (mVar 11) (mC (.int 1))))) (mLCons (mDat (mOp fIx (mVar 5) (mVar 11))) mLNil)))) (List.map (fun x => x.2) ([("_law_k", 11)] : List (Str × Nat))))) (mSeq (mIf (mTst (mOp fLt (mVar 4) (mC (.int 2)))) (mSet 6 (mOp fAdd (mVar 6) (mLst (mLCons (mDat (mTup (mLCons (mDat (mOp fIx (mVar 5) (mC (.int (-1))))) (mLCons (mDat (mOp fIx (mVar 5) (mC (.int 0)))) mLNil)))) mLNil)))) (mIf (mTst (mOp (fEq false) (mVar 4) (mC (.int 2)))) (mSet 6 (mOp fAdd (mLc (mWalk (mSl (mVar 5) (mOSome (mC (.int 1))) mONone)) (mgN 13) mYes (mDat (mTup (mLCons (mDat (mOp fIx (mVar 5) (mC (.int 0)))) (mLCons (mDat (mVar 13)) mLNil)))) (List.map (fun x => x.2) ([("_law_other", 13)] : List (Str × Nat)))) (mLc (mWalk (mSl (mVar 5) (mOSome (mC (.int 1))) mONone)) (mgN 13) mYes (mDat (mTup (mLCons (mDat (mVar 13)) (mLCons (mDat (mOp fIx (mVar 5) (mC (.int 0)))) mLNil)))) (List.map (fun x => x.2) ([("_law_other", 13)] : List (Str × Nat)))))) (mIf (mTst (mOp (fEq false) (mVar 4) (mC (.int 3)))) (mSet 6 (mLst mLNil)) mNext))) (model_rest S__law_mixed S__law_pairs S__law_pick S__law_take)))) := rfl
def at_ (row : List Str) (k : Nat) : Str := row.getD k Str.empty
def path (row : List Str) : List (Str × Str) := (List.range (row.length - 1)).map fun k => (at_ row k, at_ row (k + 1))
theorem at_get {row : List Str} {k : Nat} (h : k < row.length) : row[k]? = some (at_ row k) := by
  unfold at_
  rw [List.getD_eq_getElem?_getD, List.getElem?_eq_getElem h]
  rfl
theorem at_mem {row : List Str} {k : Nat} (h : k < row.length) : at_ row k ∈ row := List.mem_of_getElem? (at_get h)
theorem at_inj {row : List Str} (nd : row.Nodup) {j k : Nat} (hj : j < row.length) (hk : k < row.length) (h : at_ row j = at_ row k) : j = k := by
  have e : row[j]? = row[k]? := by rw [at_get hj, at_get hk, h]
  exact (List.getElem?_inj hj nd).mp e
theorem atI_at {row : List Str} {k : Nat} (h : k < row.length) : atI (row.map D.str) (k : Int) = some (.str (at_ row k)) := atI_nat (by rw [List.getElem?_map, at_get h]; rfl)
theorem path_len (row : List Str) : (path row).length = row.length - 1 := by simp [path]
theorem path_ok {row ps : List Str} (nd : row.Nodup) (pm : row.Perm ps) : ∀ h ∈ path row, OkH ps h := fun h hh => by
  obtain ⟨k, hk, rfl⟩ := List.mem_map.mp hh
  have hk := List.mem_range.mp hk
  exact ⟨pm.mem_iff.mp (at_mem (by omega)), pm.mem_iff.mp (at_mem (by omega)), fun e => by
    have := at_inj nd (by omega) (by omega) e
    omega⟩
theorem path_nd {row : List Str} (nd : row.Nodup) : (path row).Nodup := by
  unfold path
  refine List.pairwise_map.mpr (List.Pairwise.imp_of_mem ?_ List.nodup_range)
  intro j k hj hk ne e
  have hj := List.mem_range.mp hj
  have hk := List.mem_range.mp hk
  exact ne (at_inj nd (by omega) (by omega) (Prod.mk.inj e).1)
theorem path_close {row : List Str} (nd : row.Nodup) (h2 : 2 ≤ row.length) : (at_ row (row.length - 1), at_ row 0) ∉ path row := fun hh => by
  obtain ⟨k, hk, e⟩ := List.mem_map.mp hh
  have hk := List.mem_range.mp hk
  have := at_inj nd (by omega) (by omega) (Prod.mk.inj e).2
  omega
theorem sto_no {A B : Prop} (h : B) : if false = true then A else B := h
theorem lastS_at (row : List Str) : lastS row = at_ row (row.length - 1) := by
  unfold lastS at_
  rw [List.getLastD_eq_getLast?, List.getLast?_eq_getElem?, List.getD_eq_getElem?_getD]
end
section
variable {K : PySem.W.Frag} {C : Addr} {zs : List Z} {P : Z → Prop}
theorem r__law_model (h : S__law_model zs P) : m__law_model K C S__law_mixed S__law_names S__law_pairs S__law_pick S__law_take { nx := fun _ => P (.d .non), rt := P } (startG N__law_model zs) := by
  obtain ⟨most, many, rfl, h1, h2, h3, h4, p⟩ := h
  rw [model_split]
  dsimp only [mRet, mSeq, mIf, mSet, mSetO, mCB, mACons, mANil, mOp, mC, mCall, mDrop, mTst, mTru, mNot, mAnd, mOr, mAndV, mOrV, mNotV, mIfE, mLst, mTup, mLCons, mLNil, mDat, mNext, mChain, mIsi, mIsi2, mLc, mLc2, mWalk, mWalkD, mWalkS, mRng1, mRng2, mgN, mgT, mgCons, mgNil, mAsg, mFld, mProp, mMeth, mLenSet, mSortLR, mDGet, mDisp, mApp, mExt, mFor, mRetO, mPar2, mSto, mCallR, mFldS, mNever, mYes, mLenScr, mAs, mDrI, mDrS, mCells, mWalkScr, mDrPop, mAppPop, mSl, mOSome, mONone, mRev, mJoin, mFrz, mCallO, mSetCD, mDGetO, mDPutO, mFrzD, mAsgPop, mCallF, mSetF, mPar2F, mAppF, mAppF1, mBest, mIsi2V, mRng3, mReprL, mIndex, mAppT]
  refine var_at rfl rfl (var_at rfl rfl (var_at rfl rfl ⟨_, _, rfl, rfl, (most : Int) - 1, rfl, by omega, by omega, fun r r0 r1 => ?_⟩))
  obtain ⟨n, en⟩ : ∃ n : Nat, 2 + r = (n : Int) := Int.eq_ofNat_of_zero_le (by omega)
  refine ⟨n, by show [Z.drw, Z.d (.int (2 + r))] = _; rw [en], by omega, fun ns ln okn ndn => ?_⟩
  refine sto_no ⟨_, rfl, var_at rfl rfl ⟨5, rfl, by decide, by decide, fun sort s0 s1 => ?_⟩⟩
  refine sto_no ⟨_, rfl, ?_⟩
  have okp : OkPs ns := ⟨by omega, by omega, okn, ndn⟩
  refine var_at rfl rfl (var_at rfl rfl ⟨_, _, rfl, .inr rfl, by rw [List.length_map]; omega, nice_strs okn, fun ys perm => ?_⟩)
  obtain ⟨row, rfl, pm⟩ := perm_map_of perm _ rfl
  have rl : row.length = n := by rw [pm.length_eq]; exact ln
  have ndr : row.Nodup := pm.nodup_iff.mpr ndn
  have okr : ∀ x ∈ row, OkN x := fun x hx => okn x (pm.mem_iff.mp hx)
  refine ⟨_, rfl, ?_⟩
  refine var_at rfl rfl (len_seq ⟨_, rfl⟩ ?_)
  rw [List.length_map]
  refine ⟨_, _, rfl, ⟨by omega, by omega, by omega, by omega⟩, ?_⟩
  rw [show (((row.length : Int)) - 1).toNat = row.length - 1 by omega]
  refine lc_list (fun k : Nat => D.int (1 + (k : Int))) (fun _ => true) hD (fun k => (at_ row k, at_ row (k + 1))) (List.range (row.length - 1)) [] (fun k hk Pt Pf q => ?_) (small (by simp; omega)) ?_
  · have hk := List.mem_range.mp hk
    dsimp only [mRet, mSeq, mIf, mSet, mSetO, mCB, mACons, mANil, mOp, mC, mCall, mDrop, mTst, mTru, mNot, mAnd, mOr, mAndV, mOrV, mNotV, mIfE, mLst, mTup, mLCons, mLNil, mDat, mNext, mChain, mIsi, mIsi2, mLc, mLc2, mWalk, mWalkD, mWalkS, mRng1, mRng2, mgN, mgT, mgCons, mgNil, mAsg, mFld, mProp, mMeth, mLenSet, mSortLR, mDGet, mDisp, mApp, mExt, mFor, mRetO, mPar2, mSto, mCallR, mFldS, mNever, mYes, mLenScr, mAs, mDrI, mDrS, mCells, mWalkScr, mDrPop, mAppPop, mSl, mOSome, mONone, mRev, mJoin, mFrz, mCallO, mSetCD, mDGetO, mDPutO, mFrzD, mAsgPop, mCallF, mSetF, mPar2F, mAppF, mAppF1, mBest, mIsi2V, mRng3, mReprL, mIndex, mAppT]
    refine var_at rfl rfl (var_at rfl rfl ⟨_, _, rfl, rfl, false, _, _, _, rfl, rfl, (by rw [show (1 + (k : Int) - 1) = ((k : Nat) : Int) by omega]; exact atI_at (by omega)), _, rfl, ?_⟩)
    exact var_at rfl rfl (var_at rfl rfl ⟨false, _, _, _, rfl, rfl, (by rw [show (1 + (k : Int)) = ((k + 1 : Nat) : Int) by omega]; exact atI_at (by omega)), _, rfl, (by show 2 ≤ sizeLine; decide), _, rfl, q⟩)
  rw [List.nil_append, filter_yes]
  have fin : ∀ (xs : List D) (ts : List (Str × Str)), xs = ts.map hD → Ties ns ts → ∀ x11 x12 x13, model_rest S__law_mixed S__law_pairs S__law_pick S__law_take { nx := fun _ => P (.d .non), rt := P }
      [some .drw, some (.d (.int most)), some (.d (.int many)), some (.d (.lst (ns.map D.str))), some (.d (.int sort)), some (.d (.lst (row.map D.str))), some (.d (.lst xs)), none, none, none, none, x11, x12, x13] := fun xs ts e tie x11 x12 x13 => by
    rw [e]
    exact r_model_rest h1 h2 h3 h4 okp (by omega) tie p
  have six := okp.six
  have two := okp.two
  have pl := path_len row
  refine ⟨_, rfl, var_at rfl rfl ⟨_, _, rfl, rfl, _, rfl, ?_⟩⟩
  by_cases c1 : sort < 2
  · rw [decide_eq_true c1, if_pos rfl]
    refine var_at rfl rfl (var_at rfl rfl ⟨false, _, _, _, rfl, rfl, atI_lastS (fun e => by rw [e] at rl; simp at rl; omega), _, rfl, ?_⟩)
    refine var_at rfl rfl ⟨false, _, _, _, rfl, rfl, (atI_at (k := 0) (by omega)), _, rfl, (by show 2 ≤ sizeLine; decide), _, rfl, (by show 1 ≤ sizeLine; decide), ?_⟩
    refine ⟨_, _, rfl, rfl, small (by simp; omega), _, rfl, ?_⟩
    refine fin _ (path row ++ [(lastS row, at_ row 0)]) (by rw [List.map_append]; rfl) ⟨fun h hh => ?_, ?_, by rw [List.length_append, pl]; simp; omega⟩ _ _ _
    · rcases List.mem_append.mp hh with z | z
      · exact path_ok ndr pm h z
      · rw [List.mem_singleton.mp z, lastS_at]
        exact ⟨pm.mem_iff.mp (at_mem (by omega)), pm.mem_iff.mp (at_mem (by omega)), fun e => by
          have := at_inj ndr (by omega) (by omega) e
          omega⟩
    · rw [List.nodup_append]
      refine ⟨path_nd ndr, by simp, fun x hx y hy e => ?_⟩
      rw [List.mem_singleton.mp hy, lastS_at] at e
      rw [e] at hx
      exact path_close ndr (by omega) hx
  · rw [decide_eq_false c1, if_neg (by decide)]
    refine var_at rfl rfl (fEq_of rfl rfl (Nice.int (by omega)) (Nice.int (i := 2) (by decide)) _ (eqv_int _ _) (p := ⟨_, rfl, ?_⟩))
    by_cases c2 : sort = 2
    · rw [decide_eq_true c2, if_pos (by decide)]
      obtain ⟨c, rest, er⟩ : ∃ c rest, row = c :: rest := by
        cases row with
        | nil => simp at rl; omega
        | cons a l => exact ⟨a, l, rfl⟩
      have rr : rest.length + 1 = n := by rw [← rl, er]; rfl
      have hc0 : atI (row.map D.str) 0 = some (.str c) := by rw [er]; exact atI_nat (j := 0) rfl
      have cut1 : cutD (row.map D.str) (some 1) none = rest.map D.str := by
        unfold cutD
        rw [HT.sIx_none, show (1 : Int) = ((1 : Nat) : Int) from rfl, HT.sIx_nat, er]
        simp
        exact List.take_of_length_le (by simp)
      have cnr : c ∉ rest := by
        have := ndr
        rw [er] at this
        exact (List.nodup_cons.mp this).1
      have ndrest : rest.Nodup := by
        have := ndr
        rw [er] at this
        exact (List.nodup_cons.mp this).2
      refine var_at rfl rfl ⟨_, rfl, _, rfl, false, _, rfl, ?_⟩
      rw [cut1]
      refine lc_list D.str (fun _ => true) hD (fun x => (c, x)) rest [] (fun x hx Pt Pf q => ?_) (small (by simp; omega)) ?_
      · dsimp only [mRet, mSeq, mIf, mSet, mSetO, mCB, mACons, mANil, mOp, mC, mCall, mDrop, mTst, mTru, mNot, mAnd, mOr, mAndV, mOrV, mNotV, mIfE, mLst, mTup, mLCons, mLNil, mDat, mNext, mChain, mIsi, mIsi2, mLc, mLc2, mWalk, mWalkD, mWalkS, mRng1, mRng2, mgN, mgT, mgCons, mgNil, mAsg, mFld, mProp, mMeth, mLenSet, mSortLR, mDGet, mDisp, mApp, mExt, mFor, mRetO, mPar2, mSto, mCallR, mFldS, mNever, mYes, mLenScr, mAs, mDrI, mDrS, mCells, mWalkScr, mDrPop, mAppPop, mSl, mOSome, mONone, mRev, mJoin, mFrz, mCallO, mSetCD, mDGetO, mDPutO, mFrzD, mAsgPop, mCallF, mSetF, mPar2F, mAppF, mAppF1, mBest, mIsi2V, mRng3, mReprL, mIndex, mAppT]
        exact var_at rfl rfl ⟨false, _, _, _, rfl, rfl, hc0, _, rfl, var_at rfl rfl ⟨_, rfl, (by show 2 ≤ sizeLine; decide), _, rfl, q⟩⟩
      refine var_at rfl rfl ⟨_, rfl, _, rfl, false, _, rfl, ?_⟩
      rw [cut1]
      refine lc_list D.str (fun _ => true) hD (fun x => (x, c)) rest [] (fun x hx Pt Pf q => ?_) (small (by simp; omega)) ?_
      · dsimp only [mRet, mSeq, mIf, mSet, mSetO, mCB, mACons, mANil, mOp, mC, mCall, mDrop, mTst, mTru, mNot, mAnd, mOr, mAndV, mOrV, mNotV, mIfE, mLst, mTup, mLCons, mLNil, mDat, mNext, mChain, mIsi, mIsi2, mLc, mLc2, mWalk, mWalkD, mWalkS, mRng1, mRng2, mgN, mgT, mgCons, mgNil, mAsg, mFld, mProp, mMeth, mLenSet, mSortLR, mDGet, mDisp, mApp, mExt, mFor, mRetO, mPar2, mSto, mCallR, mFldS, mNever, mYes, mLenScr, mAs, mDrI, mDrS, mCells, mWalkScr, mDrPop, mAppPop, mSl, mOSome, mONone, mRev, mJoin, mFrz, mCallO, mSetCD, mDGetO, mDPutO, mFrzD, mAsgPop, mCallF, mSetF, mPar2F, mAppF, mAppF1, mBest, mIsi2V, mRng3, mReprL, mIndex, mAppT]
        exact var_at rfl rfl ⟨_, rfl, var_at rfl rfl ⟨false, _, _, _, rfl, rfl, hc0, _, rfl, (by show 2 ≤ sizeLine; decide), _, rfl, q⟩⟩
      rw [List.nil_append, List.nil_append, filter_yes]
      refine ⟨_, _, rfl, rfl, small (by simp; omega), _, rfl, ?_⟩
      have hmem : ∀ x ∈ rest, x ∈ ns ∧ c ∈ ns ∧ x ≠ c := fun x hx => ⟨pm.mem_iff.mp (by rw [er]; exact List.mem_cons_of_mem _ hx), pm.mem_iff.mp (by rw [er]; exact List.mem_cons_self), fun e => cnr (by rw [← e]; exact hx)⟩
      refine fin _ (rest.map (fun x => (c, x)) ++ rest.map fun x => (x, c)) (by rw [List.map_append]) ⟨fun h hh => ?_, ?_, by simp; omega⟩ _ _ _
      · rcases List.mem_append.mp hh with z | z
        · obtain ⟨x, hx, rfl⟩ := List.mem_map.mp z
          obtain ⟨q1, q2, q3⟩ := hmem x hx
          exact ⟨q2, q1, fun e => q3 e.symm⟩
        · obtain ⟨x, hx, rfl⟩ := List.mem_map.mp z
          obtain ⟨q1, q2, q3⟩ := hmem x hx
          exact ⟨q1, q2, q3⟩
      · rw [List.nodup_append]
        refine ⟨List.Pairwise.map _ (fun x y ne e => ne (Prod.mk.inj e).2) ndrest, List.Pairwise.map _ (fun x y ne e => ne (Prod.mk.inj e).1) ndrest, fun x hx y hy e => ?_⟩
        obtain ⟨u, hu, rfl⟩ := List.mem_map.mp hx
        obtain ⟨v, hv, rfl⟩ := List.mem_map.mp hy
        exact (hmem v hv).2.2 (Prod.mk.inj e).1.symm
    · rw [decide_eq_false c2, if_neg (by decide)]
      refine var_at rfl rfl (fEq_of rfl rfl (Nice.int (by omega)) (Nice.int (i := 3) (by decide)) _ (eqv_int _ _) (p := ⟨_, rfl, ?_⟩))
      by_cases c3 : sort = 3
      · rw [decide_eq_true c3, if_pos (by decide)]
        refine ⟨(by show 0 ≤ sizeLine; decide), _, rfl, ?_⟩
        exact fin _ [] rfl ⟨(fun h hh => nomatch hh), List.nodup_nil, by decide⟩ _ _ _
      · rw [decide_eq_false c3, if_neg (by decide)]
        exact fin _ (path row) rfl ⟨path_ok ndr pm, path_nd ndr, by omega⟩ _ _ _
end
end GL
end
section
set_option linter.all false
set_option maxRecDepth 100000
set_option maxHeartbeats 4000000
namespace GL
open PySem L2 PySem.W PyProof.Rows
variable [TabCx]
/-! ### what is shown -/
theorem pys_bulk {k : Nat} : ∀ {xs : List D}, (∀ x ∈ xs, x.py.bulk ≤ k) → PyData.bulkAll (D.pys xs) ≤ xs.length * (k + 1)
  | [], _ => by simp [D.pys, PyData.bulkAll]
  | x :: xs, h => by
    have h1 := h x List.mem_cons_self
    have h2 := pys_bulk fun y hy => h y (List.mem_cons_of_mem x hy)
    simp only [D.pys, PyData.bulkAll, List.length_cons, Nat.add_mul, Nat.one_mul]
    omega
theorem bulk_lst {k n : Nat} {xs : List D} (h : ∀ x ∈ xs, x.py.bulk ≤ k) (hn : xs.length ≤ n) : (D.lst xs).py.bulk ≤ n * (k + 1) := by
  rw [D.py, PyData.bulk]
  exact Nat.le_trans (pys_bulk h) (Nat.mul_le_mul_right _ hn)
theorem bulk_tup {k n : Nat} {xs : List D} (h : ∀ x ∈ xs, x.py.bulk ≤ k) (hn : xs.length ≤ n) : (D.tup xs).py.bulk ≤ n * (k + 1) := by
  rw [D.py, PyData.bulk]
  exact Nat.le_trans (pys_bulk h) (Nat.mul_le_mul_right _ hn)
theorem OkN.bulk {x : Str} (h : OkN x) : (D.str x).py.bulk ≤ 6 := by
  rw [D.py, PyData.bulk]
  exact h.six
theorem bulk_tupS {ys : List Str} {n : Nat} (h : ∀ y ∈ ys, OkN y) (hn : ys.length ≤ n) : (tupS ys).py.bulk ≤ n * 7 := bulk_tup (k := 6) (fun x hx => by
  obtain ⟨y, hy, rfl⟩ := List.mem_map.mp hx
  exact (h y hy).bulk) (by rw [List.length_map]; exact hn)
theorem repr_of {z : Z} {t : Bool} {xs : List D} {d : D} {n : Nat} {P : Z → Prop} (sq : z.seq = some (t, xs)) (c : z.cont = some d) (nice : Nice n d) (hb : d.py.bulk ≤ 2 ^ 20) (p : P (.d (.str d.py.shown))) (hn : n ≤ 60 := by decide) : fRepr [z] P := ⟨z, t, xs, d, rfl, sq, c, nice.shows hn hb, p⟩
theorem same_txt {a : Str} {P : Z → Prop} (p : P (.d (.bl false))) : fEqT true (.d (.str a)) (.d (.str a)) P := .inr ⟨a, a, rfl, rfl, by
  rw [decide_eq_true rfl]
  exact p⟩
/-! ### ways -/
structure WaysOk (W : List (List Str)) : Prop where
  len : W.length ≤ 9331
  nm : ∀ w ∈ W, ∀ x ∈ w, OkN x
  six : ∀ w ∈ W, 1 ≤ w.length ∧ w.length ≤ 6
theorem ways_ok {ps : List Str} {hs : List (Str × Str)} (ok : OkPs ps) (okh : OkHs ps hs) {a b : Str} (ha : a ∈ ps) : WaysOk (waysOf hs a b) := by
  refine ⟨waysOf_len okh ok.six a b, fun w hw x hx => ?_, fun w hw => ?_⟩
  · obtain ⟨⟨n, hn⟩, _⟩ := mem_waysOf hw
    exact ok.nm x ((level_ok ha okh.ok n w hn).sub x hx)
  · obtain ⟨⟨n, hn⟩, _⟩ := mem_waysOf hw
    have o := level_ok ha okh.ok n w hn
    have := nodup_sub_len o.nd o.sub
    have := ok.six
    have := o.len
    omega
theorem WaysOk.nice {W : List (List Str)} (h : WaysOk W) : Nice 2 (.lst (W.map tupS)) := Nice.lst fun d hd => by
  obtain ⟨w, hw, rfl⟩ := List.mem_map.mp hd
  exact nice_tupS (h.nm w hw)
theorem WaysOk.bulk {W : List (List Str)} (h : WaysOk W) : (D.lst (W.map tupS)).py.bulk ≤ 9331 * 43 := bulk_lst (k := 42) (fun d hd => by
  obtain ⟨w, hw, rfl⟩ := List.mem_map.mp hd
  exact bulk_tupS (n := 6) (h.nm w hw) (h.six w hw).2) (by rw [List.length_map]; exact h.len)
theorem WaysOk.near {W : List (List Str)} (h : WaysOk W) : Nice 0 (nearD W) ∧ (nearD W).py.bulk = 0 := by
  unfold nearD
  cases e : W.head? with
  | none => exact ⟨Nice.non, by simp [D.py, PyData.bulk]⟩
  | some w =>
    have := h.six w (List.mem_of_mem_head? e)
    exact ⟨Nice.int (by omega), by simp [D.py, PyData.bulk]⟩
theorem WaysOk.far {W : List (List Str)} (h : WaysOk W) : Nice 0 (farD W) ∧ (farD W).py.bulk = 0 := by
  unfold farD
  cases e : W.getLast? with
  | none => exact ⟨Nice.non, by simp [D.py, PyData.bulk]⟩
  | some w =>
    have := h.six w (List.mem_of_mem_getLast? e)
    exact ⟨Nice.int (by omega), by simp [D.py, PyData.bulk]⟩
theorem ne_nil_ways {W : List (List Str)} (h : WaysOk W) {P : Z → Prop} (p : P (.d (.bl (!W.isEmpty)))) : fEq true (.d (.lst (W.map tupS))) (.own []) P := by
  refine fEq_of rfl rfl h.nice (Nice.lst (n := 0) fun x hx => nomatch hx) W.isEmpty ?_ (p := p)
  cases W <;> simp [D.py, D.pys, PyData.eqv, PyData.eqvAll]
theorem nearD_cons {w : List Str} {W : List (List Str)} : nearD (w :: W) = .int ((w.length : Int) - 1) := rfl
theorem farD_snoc {w : List Str} {W : List (List Str)} : farD (W ++ [w]) = .int ((w.length : Int) - 1) := by
  unfold farD
  simp
section
variable {K : PySem.W.Frag} {C : Addr} {zs : List Z} {P : Z → Prop}
end
end GL
end
section
set_option linter.all false
set_option maxRecDepth 100000
set_option maxHeartbeats 4000000
namespace GL
open PySem L2 PySem.W PyProof.Rows
variable [TabCx]
/-! ### rings -/
theorem keyLR_inj {a b : List Str} (h : keyToks (keyLR a) = keyToks (keyLR b)) : a = b := by
  simp only [keyLR, keyToks, keyToksAll, List.cons_append, List.nil_append, List.cons.injEq, true_and] at h
  exact keyToksAll_inj (List.append_cancel_right h.2)
theorem linLR : Lin (dataLe false fun b : List Str => keyLR (id b)) := lin_of (k := fun b : List Str => keyLR (id b)) fun a b h => keyLR_inj h
theorem sortLR_perm {xs ys : List (List Str)} (h : xs.Perm ys) : sortLR id xs = sortLR id ys := linLR.perm h
theorem filter_or {α : Type} (p q : α → Bool) : ∀ L : List α, (∀ x ∈ L, ¬(p x = true ∧ q x = true)) → (L.filter p ++ L.filter q).Perm (L.filter fun x => p x || q x)
  | [], _ => .refl _
  | x :: L, h => by
    have ih := filter_or p q L fun y hy => h y (List.mem_cons_of_mem _ hy)
    have hx := h x List.mem_cons_self
    by_cases c : p x = true
    · have d : q x = false := by
        cases e : q x with
        | false => rfl
        | true => exact absurd ⟨c, e⟩ hx
      rw [List.filter_cons_of_pos c, List.filter_cons_of_neg (by simp [d]), List.filter_cons_of_pos (by simp [c])]
      exact ih.cons x
    · by_cases d : q x = true
      · rw [List.filter_cons_of_neg c, List.filter_cons_of_pos d, List.filter_cons_of_pos (by simp [d])]
        exact List.perm_middle.trans (ih.cons x)
      · rw [List.filter_cons_of_neg c, List.filter_cons_of_neg d, List.filter_cons_of_neg (by simp [c, d])]
        exact ih
theorem flat_filter {α β : Type} [DecidableEq β] (g : α → β) (L : List α) : ∀ os : List β, os.Nodup → (os.flatMap fun o => L.filter fun w => decide (g w = o)).Perm (L.filter fun w => decide (g w ∈ os))
  | [], _ => by simp
  | o :: os, nd => by
    obtain ⟨h1, h2⟩ := List.nodup_cons.mp nd
    rw [List.flatMap_cons]
    refine ((flat_filter g L os h2).append_left _).trans ?_
    refine (filter_or (fun w => decide (g w = o)) (fun w => decide (g w ∈ os)) L fun x _ ⟨a, b⟩ => h1 ?_).trans ?_
    · rw [← of_decide_eq_true a]; exact of_decide_eq_true b
    · rw [List.filter_congr (q := fun w => decide (g w ∈ o :: os)) fun x _ => by simp]
theorem perm_flat {α β : Type} {f g : α → List β} : ∀ {xs : List α}, (∀ x ∈ xs, (f x).Perm (g x)) → (xs.flatMap f).Perm (xs.flatMap g)
  | [], _ => .refl _
  | x :: xs, h => by
    rw [List.flatMap_cons, List.flatMap_cons]
    exact (h x List.mem_cons_self).append (perm_flat fun y hy => h y (List.mem_cons_of_mem _ hy))
/-- the least of some texts -/
def minS : List Str → Str
  | [] => Str.empty
  | x :: xs => match minD (.str x) (xs.map .str) with
    | .str y => y
    | _ => Str.empty
theorem min_tup {w : List Str} (hw : w ≠ []) (okw : ∀ y ∈ w, OkN y) {P : Z → Prop} (p : minS w ∈ w → P (.d (.str (minS w)))) : fMinA [.d (tupS w)] P := by
  cases w with
  | nil => exact absurd rfl hw
  | cons x xs =>
    have ep : D.pys (xs.map D.str) = xs.map .str := pys_strs xs
    have ep2 : D.pys (D.str x :: xs.map D.str) = (x :: xs).map .str := pys_strs (x :: xs)
    refine ⟨_, true, .str x, xs.map .str, rfl, rfl, ?_, ?_, ?_, fun y hy e => ?_⟩
    · rw [D.plains_eq]
      refine List.all_eq_true.mpr fun d hd => ?_
      rw [← List.map_cons (f := D.str)] at hd
      obtain ⟨y, hy, rfl⟩ := List.mem_map.mp hd
      exact (okw y hy).nice.plain
    · rw [ep2]
      refine ⟨fun a ha b hb => ?_, fun a ha => ?_⟩
      · obtain ⟨a, _, rfl⟩ := List.mem_map.mp ha
        obtain ⟨b, _, rfl⟩ := List.mem_map.mp hb
        simp [alike]
      · obtain ⟨a, _, rfl⟩ := List.mem_map.mp ha
        nofun
    · rw [ep2]
      have : ∀ ys : List Str, PyData.depthAll (ys.map .str) ≤ 60 := by
        intro ys
        induction ys with
        | nil => simp [PyData.depthAll]
        | cons y ys ih =>
          rw [List.map_cons, PyData.depthAll]
          simp only [PyData.depth]
          omega
      exact this _
    · rw [← List.map_cons (f := D.str)] at hy
      obtain ⟨s, hs, rfl⟩ := List.mem_map.mp hy
      rw [ep] at e
      have e3 : minS (x :: xs) = s := by
        show (match minD (.str x) (xs.map .str) with | .str y => y | _ => Str.empty) = s
        rw [show minD (.str x) (xs.map .str) = .str s from by rw [← D.py, ← e, D.py]]
      rw [e3] at p
      exact p hs
/-! ### how many ways there are -/
theorem grow_len2 {ps : List Str} {hs : List (Str × Str)} (okh : OkHs ps hs) (h6 : ps.length ≤ 6) {a : Str} {n : Nat} {w : List Str} (o : WayOk ps a n w) : (grow hs w).length ≤ 5 - n := by
  have nd : (nexts hs (lastS w)).Nodup := by
    unfold nexts
    refine List.pairwise_map.mpr (List.Pairwise.imp_of_mem ?_ (List.Pairwise.filter _ okh.nd))
    intro x y hx hy ne e
    obtain ⟨_, h1⟩ := List.mem_filter.mp hx
    obtain ⟨_, h2⟩ := List.mem_filter.mp hy
    have e1 : x.1 = lastS w := of_decide_eq_true h1
    have e2 : y.1 = lastS w := of_decide_eq_true h2
    exact ne (Prod.ext (e1.trans e2.symm) e)
  have sub : ∀ x ∈ nexts hs (lastS w), x ∈ ps := fun x hx => by
    obtain ⟨h, hh, rfl⟩ := List.mem_map.mp hx
    exact (okh.ok h (List.mem_filter.mp hh).1).b
  have nd2 : (w ++ (nexts hs (lastS w)).filter fun x => decide (x ∉ w)).Nodup := by
    rw [List.nodup_append]
    refine ⟨o.nd, List.Pairwise.filter _ nd, fun x hx y hy e => ?_⟩
    have := (List.mem_filter.mp hy).2
    rw [← e] at this
    exact (of_decide_eq_true this) hx
  have := nodup_sub_len (ys := ps) nd2 fun x hx => by
    rcases List.mem_append.mp hx with z | z
    · exact o.sub x z
    · exact sub x (List.mem_filter.mp z).1
  rw [List.length_append, o.len] at this
  unfold grow
  rw [List.length_map]
  omega
def fallN : Nat → Nat
  | 0 => 1
  | n + 1 => fallN n * (5 - n)
theorem level_len2 {ps : List Str} {hs : List (Str × Str)} (okh : OkHs ps hs) (h6 : ps.length ≤ 6) {a : Str} (ha : a ∈ ps) : ∀ n, (level hs a n).length ≤ fallN n
  | 0 => by simp [level, fallN]
  | n + 1 => by
    have h1 := flat_len (xs := level hs a n) (f := grow hs) (k := 5 - n) fun w hw => grow_len2 okh h6 (level_ok ha okh.ok n w hw)
    have h2 := level_len2 okh h6 ha n
    exact Nat.le_trans h1 (Nat.mul_le_mul_right _ h2)
theorem allWays_len {ps : List Str} {hs : List (Str × Str)} (okh : OkHs ps hs) (h6 : ps.length ≤ 6) {a : Str} (ha : a ∈ ps) : (allWays hs a).length ≤ 326 := by
  have : ∀ k, (upTo hs a k).length ≤ ((List.range k).map fallN).sum := by
    intro k
    induction k with
    | zero => simp [upTo]
    | succ k ih =>
      rw [upTo_succ, List.length_append, List.range_succ, List.map_append, List.sum_append]
      have := level_len2 okh h6 ha k
      simp
      omega
  exact Nat.le_trans (this 6) (by decide)
/-- the rings that begin with a, over its ways -/
def ringsFrom (hs : List (Str × Str)) (a : Str) : List (List Str) := (allWays hs a).filter fun w => decide (minS w = a) && decide ((lastS w, a) ∈ hs)
def ringsOf (ps : List Str) (hs : List (Str × Str)) : List (List Str) := sortLR id (ps.flatMap (ringsFrom hs))
theorem mem_ringsFrom {hs : List (Str × Str)} {a : Str} {w : List Str} (h : w ∈ ringsFrom hs a) : (∃ n, w ∈ level hs a n) ∧ minS w = a ∧ (lastS w, a) ∈ hs := by
  obtain ⟨h1, h2⟩ := List.mem_filter.mp h
  simp only [Bool.and_eq_true, decide_eq_true_eq] at h2
  exact ⟨mem_all h1, h2.1, h2.2⟩
theorem mem_ringsOf {ps : List Str} {hs : List (Str × Str)} {w : List Str} (h : w ∈ ringsOf ps hs) : ∃ a ∈ ps, w ∈ ringsFrom hs a := List.mem_flatMap.mp (List.mem_mergeSort.mp h)
theorem rings_len {ps qs : List Str} {hs : List (Str × Str)} (okh : OkHs ps hs) (h6 : ps.length ≤ 6) (sub : ∀ x ∈ qs, x ∈ ps) : (qs.flatMap (ringsFrom hs)).length ≤ qs.length * 326 := flat_len fun a ha => Nat.le_trans (List.length_filter_le _ _) (allWays_len okh h6 (sub a ha))
theorem rings_ok {ps : List Str} {hs : List (Str × Str)} (ok : OkPs ps) (okh : OkHs ps hs) : WaysOk (ringsOf ps hs) := by
  refine ⟨?_, fun w hw x hx => ?_, fun w hw => ?_⟩
  · have := rings_len okh ok.six (qs := ps) fun x hx => hx
    have := ok.six
    unfold ringsOf sortLR
    rw [List.length_mergeSort]
    omega
  · obtain ⟨a, ha, hr⟩ := mem_ringsOf hw
    obtain ⟨⟨n, hn⟩, _⟩ := mem_ringsFrom hr
    exact ok.nm x ((level_ok ha okh.ok n w hn).sub x hx)
  · obtain ⟨a, ha, hr⟩ := mem_ringsOf hw
    obtain ⟨⟨n, hn⟩, _⟩ := mem_ringsFrom hr
    have o := level_ok ha okh.ok n w hn
    have := nodup_sub_len o.nd o.sub
    have := ok.six
    have := o.len
    omega
def befores (hs : List (Str × Str)) (a : Str) : List Str := (hs.filter fun h => decide (h.2 = a)).map (·.1)
theorem mem_befores {hs : List (Str × Str)} {a b : Str} : b ∈ befores hs a ↔ (b, a) ∈ hs := by
  unfold befores
  constructor
  · intro h
    obtain ⟨⟨x, y⟩, h1, rfl⟩ := List.mem_map.mp h
    obtain ⟨h2, h3⟩ := List.mem_filter.mp h1
    rw [← (of_decide_eq_true h3 : y = a)]
    exact h2
  · intro h
    exact List.mem_map.mpr ⟨(b, a), List.mem_filter.mpr ⟨h, by simp⟩, rfl⟩
theorem befores_nd {hs : List (Str × Str)} (nd : hs.Nodup) (a : Str) : (befores hs a).Nodup := by
  unfold befores
  refine List.pairwise_map.mpr (List.Pairwise.imp_of_mem ?_ (List.Pairwise.filter _ nd))
  intro x y hx hy ne e
  obtain ⟨_, h1⟩ := List.mem_filter.mp hx
  obtain ⟨_, h2⟩ := List.mem_filter.mp hy
  have e1 : x.2 = a := of_decide_eq_true h1
  have e2 : y.2 = a := of_decide_eq_true h2
  exact ne (Prod.ext e (e1.trans e2.symm))
theorem befores_len {ps : List Str} {hs : List (Str × Str)} (okh : OkHs ps hs) (a : Str) : (befores hs a).length ≤ ps.length := nodup_sub_len (befores_nd okh.nd a) fun x hx => (okh.ok _ (mem_befores.mp hx)).a
/-- the law's rings that begin with a -/
def lringsFrom (hs : List (Str × Str)) (a : Str) : List (List Str) := (befores hs a).flatMap fun o => (waysOf hs a o).filter fun w => decide (minS w = a)
theorem lrings_perm {ps : List Str} {hs : List (Str × Str)} (okh : OkHs ps hs) (a : Str) : (lringsFrom hs a).Perm (ringsFrom hs a) := by
  unfold lringsFrom ringsFrom
  refine (perm_flat (g := fun o => ((allWays hs a).filter fun w => decide (minS w = a)).filter fun w => decide (lastS w = o)) fun o _ => ?_).trans ?_
  · rw [List.filter_filter]
    refine ((List.mergeSort_perm _ _).filter _).trans ?_
    rw [List.filter_filter]
    refine List.Perm.of_eq (List.filter_congr fun w _ => ?_)
    exact Bool.and_comm _ _
  · refine (flat_filter lastS _ _ (befores_nd okh.nd a)).trans ?_
    rw [List.filter_filter]
    refine List.Perm.of_eq (List.filter_congr fun w _ => ?_)
    rw [show decide (lastS w ∈ befores hs a) = decide ((lastS w, a) ∈ hs) from by simp only [mem_befores], Bool.and_comm]
section
variable {K : PySem.W.Frag} {C : Addr} {zs : List Z} {P : Z → Prop}
def S_handings (C : Addr) : Spc := fun zs P => ∃ ps hs, zs = [.d (webD C ps hs)] ∧ P (.d (.tup (hs.map hD)))
theorem r_handings (h : S_handings C zs P) : m_W_handings K C { nx := fun _ => P (.d .non), rt := P } (startG N_W_handings zs) := by
  obtain ⟨ps, hs, rfl, p⟩ := h
  dsimp only [m_W_handings, mRet, mSeq, mIf, mSet, mSetO, mCB, mACons, mANil, mOp, mC, mCall, mDrop, mTst, mTru, mNot, mAnd, mOr, mAndV, mOrV, mNotV, mIfE, mLst, mTup, mLCons, mLNil, mDat, mNext, mChain, mIsi, mIsi2, mLc, mLc2, mWalk, mWalkD, mWalkS, mRng1, mRng2, mgN, mgT, mgCons, mgNil, mAsg, mFld, mProp, mMeth, mLenSet, mSortLR, mDGet, mDisp, mApp, mExt, mFor, mRetO, mPar2, mSto, mCallR, mFldS, mNever, mYes, mLenScr, mAs, mDrI, mDrS, mCells, mWalkScr, mDrPop, mAppPop, mSl, mOSome, mONone, mRev, mJoin, mFrz, mCallO, mSetCD, mDGetO, mDPutO, mFrzD, mAsgPop, mCallF, mSetF, mPar2F, mAppF, mAppF1, mBest, mIsi2V, mRng3, mReprL, mIndex, mAppT]
  exact var_at rfl rfl ⟨_, rfl, _, _, _, rfl, fld_h, p⟩
def S_rings (C : Addr) : Spc := fun zs P => ∃ ps hs, zs = [.d (webD C ps hs)] ∧ OkPs ps ∧ OkHs ps hs ∧ P (.own ((ringsOf ps hs).map tupS))
theorem r_rings (h : S_rings C zs P) : m_rings K C (S_check_web C) S_shorter_first (S_ways_from C) (S_handings C) (S_parties C) { nx := fun _ => P (.d .non), rt := P } (startG N_rings zs) := by
  obtain ⟨ps, hs, rfl, ok, okh, p⟩ := h
  have h6 := ok.six
  have h12 := okh.twelve
  dsimp only [m_rings, mRet, mSeq, mIf, mSet, mSetO, mCB, mACons, mANil, mOp, mC, mCall, mDrop, mTst, mTru, mNot, mAnd, mOr, mAndV, mOrV, mNotV, mIfE, mLst, mTup, mLCons, mLNil, mDat, mNext, mChain, mIsi, mIsi2, mLc, mLc2, mWalk, mWalkD, mWalkS, mRng1, mRng2, mgN, mgT, mgCons, mgNil, mAsg, mFld, mProp, mMeth, mLenSet, mSortLR, mDGet, mDisp, mApp, mExt, mFor, mRetO, mPar2, mSto, mCallR, mFldS, mNever, mYes, mLenScr, mAs, mDrI, mDrS, mCells, mWalkScr, mDrPop, mAppPop, mSl, mOSome, mONone, mRev, mJoin, mFrz, mCallO, mSetCD, mDGetO, mDPutO, mFrzD, mAsgPop, mCallF, mSetF, mPar2F, mAppF, mAppF1, mBest, mIsi2V, mRng3, mReprL, mIndex, mAppT]
  refine var_at rfl rfl ⟨ps, hs, rfl, ?_⟩
  refine ⟨(by show 0 ≤ sizeLine; decide), _, rfl, ?_⟩
  refine var_at rfl rfl ⟨_, rfl, _, _, rfl, ps, hs, rfl, _, rfl, true, _, rfl, ?_⟩
  refine for_list D.str (fun rest ρ => ∃ ps1 x2 x3, ps1 ++ rest = ps ∧ ρ = [some (.d (webD C ps hs)), some (.own ((ps1.flatMap (ringsFrom hs)).map tupS)), x2, x3]) ?_ ?_ ps _ ⟨[], none, none, rfl, rfl⟩
  · rintro a rest ρ Nx ⟨ps1, x2, x3, e1, rfl⟩ nx
    have ha : a ∈ ps := by rw [← e1]; simp
    have l1 := rings_len okh h6 (qs := ps1) fun x hx => by rw [← e1]; exact List.mem_append_left _ hx
    have l2 : ps1.length ≤ 6 := by
      have := congrArg List.length e1
      rw [List.length_append] at this
      omega
    have l3 := allWays_len okh h6 ha
    dsimp only [mRet, mSeq, mIf, mSet, mSetO, mCB, mACons, mANil, mOp, mC, mCall, mDrop, mTst, mTru, mNot, mAnd, mOr, mAndV, mOrV, mNotV, mIfE, mLst, mTup, mLCons, mLNil, mDat, mNext, mChain, mIsi, mIsi2, mLc, mLc2, mWalk, mWalkD, mWalkS, mRng1, mRng2, mgN, mgT, mgCons, mgNil, mAsg, mFld, mProp, mMeth, mLenSet, mSortLR, mDGet, mDisp, mApp, mExt, mFor, mRetO, mPar2, mSto, mCallR, mFldS, mNever, mYes, mLenScr, mAs, mDrI, mDrS, mCells, mWalkScr, mDrPop, mAppPop, mSl, mOSome, mONone, mRev, mJoin, mFrz, mCallO, mSetCD, mDGetO, mDPutO, mFrzD, mAsgPop, mCallF, mSetF, mPar2F, mAppF, mAppF1, mBest, mIsi2V, mRng3, mReprL, mIndex, mAppT]
    refine var_at rfl rfl (var_at rfl rfl ⟨ps, hs, a, rfl, ok, okh, ha, _, rfl, false, _, rfl, ?_⟩)
    refine for_list tupS (fun rest ρ => ∃ ws1 x3, ws1 ++ rest = allWays hs a ∧ ρ = [some (.d (webD C ps hs)), some (.own ((ps1.flatMap (ringsFrom hs) ++ ws1.filter fun w => decide (minS w = a) && decide ((lastS w, a) ∈ hs)).map tupS)), some (.d (.str a)), x3]) ?_ ?_ (allWays hs a) _ ⟨[], x3, rfl, by simp⟩
    · rintro w wrest ρ Nx2 ⟨ws1, x3, e2, rfl⟩ nx2
      obtain ⟨n, hn⟩ := mem_all (hs := hs) (a := a) (w := w) (by rw [← e2]; simp)
      have o := level_ok ha okh.ok n w hn
      have okw : ∀ y ∈ w, OkN y := fun y hy => ok.nm y (o.sub y hy)
      have hla : lastS w ∈ ps := o.sub _ (lastS_mem o.ne)
      have l4 : ws1.length ≤ 326 := by
        have := congrArg List.length e2
        rw [List.length_append] at this
        omega
      have l5 := List.length_filter_le (fun w => decide (minS w = a) && decide ((lastS w, a) ∈ hs)) ws1
      have step : ∀ (c : Bool), (decide (minS w = a) && decide ((lastS w, a) ∈ hs)) = c → ps1.flatMap (ringsFrom hs) ++ (ws1 ++ [w]).filter (fun w => decide (minS w = a) && decide ((lastS w, a) ∈ hs)) = (ps1.flatMap (ringsFrom hs) ++ ws1.filter fun w => decide (minS w = a) && decide ((lastS w, a) ∈ hs)) ++ if c = true then [w] else [] := fun c hc => by
        rw [List.filter_append, ← List.append_assoc]
        congr 1
        cases c with
        | true => simp only [List.filter_cons, hc, List.filter_nil]
        | false => simp only [List.filter_cons, hc, List.filter_nil]
      have no : (decide (minS w = a) && decide ((lastS w, a) ∈ hs)) = false → Nx2 [some (.d (webD C ps hs)), some (.own ((ps1.flatMap (ringsFrom hs) ++ ws1.filter fun w => decide (minS w = a) && decide ((lastS w, a) ∈ hs)).map tupS)), some (.d (.str a)), some (.d (tupS w))] := fun hc => by
        have := step false hc
        rw [if_neg (by decide), List.append_nil] at this
        exact nx2 _ ⟨ws1 ++ [w], some (.d (tupS w)), by rw [List.append_assoc]; exact e2, by rw [this]⟩
      dsimp only [mRet, mSeq, mIf, mSet, mSetO, mCB, mACons, mANil, mOp, mC, mCall, mDrop, mTst, mTru, mNot, mAnd, mOr, mAndV, mOrV, mNotV, mIfE, mLst, mTup, mLCons, mLNil, mDat, mNext, mChain, mIsi, mIsi2, mLc, mLc2, mWalk, mWalkD, mWalkS, mRng1, mRng2, mgN, mgT, mgCons, mgNil, mAsg, mFld, mProp, mMeth, mLenSet, mSortLR, mDGet, mDisp, mApp, mExt, mFor, mRetO, mPar2, mSto, mCallR, mFldS, mNever, mYes, mLenScr, mAs, mDrI, mDrS, mCells, mWalkScr, mDrPop, mAppPop, mSl, mOSome, mONone, mRev, mJoin, mFrz, mCallO, mSetCD, mDGetO, mDPutO, mFrzD, mAsgPop, mCallF, mSetF, mPar2F, mAppF, mAppF1, mBest, mIsi2V, mRng3, mReprL, mIndex, mAppT]
      refine var_at rfl rfl (min_tup o.ne okw fun hm => var_at rfl rfl ?_)
      refine fEq_of rfl rfl (okw _ hm).nice (ok.nm _ ha).nice _ (eqv_str _ _) (p := ⟨_, rfl, ?_⟩)
      by_cases c : minS w = a
      · rw [decide_eq_true c, if_pos (by decide)]
        refine var_at rfl rfl (ix_last o.ne ⟨_, rfl, var_at rfl rfl ⟨_, rfl, (by show 2 ≤ sizeLine; decide), ?_⟩⟩)
        refine var_at rfl rfl ⟨_, rfl, _, _, rfl, ps, hs, rfl, ?_⟩
        have oh : (lastS w, a) ∈ hs → OkH ps (lastS w, a) := fun z => okh.ok _ z
        have nice : Nice 1 (hD (lastS w, a)) := nice_tupS fun y hy => by
          rcases List.mem_cons.mp hy with rfl | hy
          · exact ok.nm _ hla
          · rw [List.mem_singleton.mp hy]; exact ok.nm _ ha
        refine ⟨hD (lastS w, a), true, _, rfl, rfl, nice.ok (by decide), (Nice.lst (n := 1) fun d hd => ?_).ok (by decide), ?_⟩
        · obtain ⟨y, hy, rfl⟩ := List.mem_map.mp hd
          exact (okh.ok y hy).nice ok.nm
        rw [any_hDs]
        refine ⟨_, rfl, ?_⟩
        by_cases d : (lastS w, a) ∈ hs
        · rw [decide_eq_true d, if_pos (by decide)]
          refine ⟨_, rfl, var_at rfl rfl ⟨_, rfl, ?_, ?_⟩⟩
          · rw [List.length_map, List.length_append]
            exact Nat.lt_of_lt_of_le (by omega : _ < 1000000) (by decide)
          · have := step true (by rw [decide_eq_true c, decide_eq_true d]; rfl)
            rw [if_pos rfl] at this
            refine nx2 _ ⟨ws1 ++ [w], some (.d (tupS w)), by rw [List.append_assoc]; exact e2, ?_⟩
            rw [this, List.map_append (l₂ := [w])]
            rfl
        · rw [decide_eq_false d, if_neg (by decide)]
          exact no (by rw [decide_eq_false d, Bool.and_false])
      · rw [decide_eq_false c, if_neg (by decide)]
        exact no (by rw [decide_eq_false c, Bool.false_and])
    · rintro ρ ⟨ws1, x3, e2, rfl⟩
      rw [List.append_nil] at e2
      subst e2
      refine nx _ ⟨ps1 ++ [a], some (.d (.str a)), x3, by rw [List.append_assoc]; exact e1, ?_⟩
      rw [List.flatMap_append, List.flatMap_singleton]
      rfl
  · rintro ρ ⟨ps1, x2, x3, e1, rfl⟩
    rw [List.append_nil] at e1
    subst e1
    refine var_at rfl rfl ⟨_, _, rfl, .b _, ?_⟩
    exact p
def S__law_before : Spc := fun zs P => ∃ ps hs a, zs = [.d (mdD ps hs), .d (.str a)] ∧ OkPs ps ∧ OkHs ps hs ∧ a ∈ ps ∧ P (.own ((befores hs a).map D.str))
theorem r__law_before (h : S__law_before zs P) : m__law_before K C { nx := fun _ => P (.d .non), rt := P } (startG N__law_before zs) := by
  obtain ⟨ps, hs, a, rfl, ok, okh, ha, p⟩ := h
  have h2 := okh.twelve
  dsimp only [m__law_before, mRet, mSeq, mIf, mSet, mSetO, mCB, mACons, mANil, mOp, mC, mCall, mDrop, mTst, mTru, mNot, mAnd, mOr, mAndV, mOrV, mNotV, mIfE, mLst, mTup, mLCons, mLNil, mDat, mNext, mChain, mIsi, mIsi2, mLc, mLc2, mWalk, mWalkD, mWalkS, mRng1, mRng2, mgN, mgT, mgCons, mgNil, mAsg, mFld, mProp, mMeth, mLenSet, mSortLR, mDGet, mDisp, mApp, mExt, mFor, mRetO, mPar2, mSto, mCallR, mFldS, mNever, mYes, mLenScr, mAs, mDrI, mDrS, mCells, mWalkScr, mDrPop, mAppPop, mSl, mOSome, mONone, mRev, mJoin, mFrz, mCallO, mSetCD, mDGetO, mDPutO, mFrzD, mAsgPop, mCallF, mSetF, mPar2F, mAppF, mAppF1, mBest, mIsi2V, mRng3, mReprL, mIndex, mAppT]
  refine var_at rfl rfl ⟨_, rfl, _, _, _, rfl, md_ties, false, _, rfl, ?_⟩
  refine lc_list hD (fun h => decide (h.2 = a)) D.str (fun h : Str × Str => h.1) hs [] (fun h hh Pt Pf k => ?_) (small (by simp; omega)) ?_
  · dsimp only [mRet, mSeq, mIf, mSet, mSetO, mCB, mACons, mANil, mOp, mC, mCall, mDrop, mTst, mTru, mNot, mAnd, mOr, mAndV, mOrV, mNotV, mIfE, mLst, mTup, mLCons, mLNil, mDat, mNext, mChain, mIsi, mIsi2, mLc, mLc2, mWalk, mWalkD, mWalkS, mRng1, mRng2, mgN, mgT, mgCons, mgNil, mAsg, mFld, mProp, mMeth, mLenSet, mSortLR, mDGet, mDisp, mApp, mExt, mFor, mRetO, mPar2, mSto, mCallR, mFldS, mNever, mYes, mLenScr, mAs, mDrI, mDrS, mCells, mWalkScr, mDrPop, mAppPop, mSl, mOSome, mONone, mRev, mJoin, mFrz, mCallO, mSetCD, mDGetO, mDPutO, mFrzD, mAsgPop, mCallF, mSetF, mPar2F, mAppF, mAppF1, mBest, mIsi2V, mRng3, mReprL, mIndex, mAppT]
    refine ⟨_, rfl, rfl, _, _, rfl, _, _, rfl, rfl, ?_⟩
    refine var_at rfl rfl (var_at rfl rfl (fEq_of rfl rfl (ok.nm _ (okh.ok h hh).b).nice (ok.nm _ ha).nice _ (eqv_str _ _) (p := ⟨_, rfl, ?_⟩)))
    by_cases e : h.2 = a
    · rw [if_pos (decide_eq_true e)] at k
      rw [decide_eq_true e, if_pos (by decide)]
      exact var_at rfl rfl ⟨_, rfl, k⟩
    · rw [if_neg (by simpa using e)] at k
      rw [decide_eq_false e, if_neg (by decide)]
      exact k
  · exact p
def S__law_rings : Spc := fun zs P => ∃ ps hs, zs = [.d (mdD ps hs)] ∧ OkPs ps ∧ OkHs ps hs ∧ P (.own ((ringsOf ps hs).map tupS))
theorem r__law_rings (h : S__law_rings zs P) : m__law_rings K C S__law_before S__law_shorter S__law_ways { nx := fun _ => P (.d .non), rt := P } (startG N__law_rings zs) := by
  obtain ⟨ps, hs, rfl, ok, okh, p⟩ := h
  have h6 := ok.six
  have h12 := okh.twelve
  have lenF : ∀ a ∈ ps, (lringsFrom hs a).length ≤ 326 := fun a ha => by
    rw [(lrings_perm okh a).length_eq]
    exact Nat.le_trans (List.length_filter_le _ _) (allWays_len okh h6 ha)
  dsimp only [m__law_rings, mRet, mSeq, mIf, mSet, mSetO, mCB, mACons, mANil, mOp, mC, mCall, mDrop, mTst, mTru, mNot, mAnd, mOr, mAndV, mOrV, mNotV, mIfE, mLst, mTup, mLCons, mLNil, mDat, mNext, mChain, mIsi, mIsi2, mLc, mLc2, mWalk, mWalkD, mWalkS, mRng1, mRng2, mgN, mgT, mgCons, mgNil, mAsg, mFld, mProp, mMeth, mLenSet, mSortLR, mDGet, mDisp, mApp, mExt, mFor, mRetO, mPar2, mSto, mCallR, mFldS, mNever, mYes, mLenScr, mAs, mDrI, mDrS, mCells, mWalkScr, mDrPop, mAppPop, mSl, mOSome, mONone, mRev, mJoin, mFrz, mCallO, mSetCD, mDGetO, mDPutO, mFrzD, mAsgPop, mCallF, mSetF, mPar2F, mAppF, mAppF1, mBest, mIsi2V, mRng3, mReprL, mIndex, mAppT]
  refine ⟨(by show 0 ≤ sizeLine; decide), _, rfl, ?_⟩
  refine var_at rfl rfl ⟨_, rfl, _, _, _, rfl, md_dots, _, rfl, false, _, rfl, ?_⟩
  refine for_list D.str (fun rest ρ => ∃ ps1 x2 x3, ps1 ++ rest = ps ∧ ρ = [some (.d (mdD ps hs)), some (.d (.lst ((ps1.flatMap (lringsFrom hs)).map tupS))), x2, x3, none]) ?_ ?_ ps _ ⟨[], none, none, rfl, rfl⟩
  · rintro a rest ρ Nx ⟨ps1, x2, x3, e1, rfl⟩ nx
    have ha : a ∈ ps := by rw [← e1]; simp
    have l1 : (ps1.flatMap (lringsFrom hs)).length ≤ ps1.length * 326 := flat_len fun x hx => lenF x (by rw [← e1]; exact List.mem_append_left _ hx)
    have l2 : ps1.length ≤ 6 := by
      have := congrArg List.length e1
      rw [List.length_append] at this
      omega
    have l3 := lenF a ha
    dsimp only [mRet, mSeq, mIf, mSet, mSetO, mCB, mACons, mANil, mOp, mC, mCall, mDrop, mTst, mTru, mNot, mAnd, mOr, mAndV, mOrV, mNotV, mIfE, mLst, mTup, mLCons, mLNil, mDat, mNext, mChain, mIsi, mIsi2, mLc, mLc2, mWalk, mWalkD, mWalkS, mRng1, mRng2, mgN, mgT, mgCons, mgNil, mAsg, mFld, mProp, mMeth, mLenSet, mSortLR, mDGet, mDisp, mApp, mExt, mFor, mRetO, mPar2, mSto, mCallR, mFldS, mNever, mYes, mLenScr, mAs, mDrI, mDrS, mCells, mWalkScr, mDrPop, mAppPop, mSl, mOSome, mONone, mRev, mJoin, mFrz, mCallO, mSetCD, mDGetO, mDPutO, mFrzD, mAsgPop, mCallF, mSetF, mPar2F, mAppF, mAppF1, mBest, mIsi2V, mRng3, mReprL, mIndex, mAppT]
    refine var_at rfl rfl (var_at rfl rfl ⟨ps, hs, a, rfl, ok, okh, ha, _, rfl, false, _, rfl, ?_⟩)
    refine for_list D.str (fun rest ρ => ∃ os1 x3, os1 ++ rest = befores hs a ∧ ρ = [some (.d (mdD ps hs)), some (.d (.lst ((ps1.flatMap (lringsFrom hs) ++ os1.flatMap fun o => (waysOf hs a o).filter fun w => decide (minS w = a)).map tupS))), some (.d (.str a)), x3, none]) ?_ ?_ (befores hs a) _ ⟨[], x3, rfl, by simp⟩
    · rintro b brest ρ Nx2 ⟨os1, x3, e2, rfl⟩ nx2
      have hb : b ∈ ps := (okh.ok (b, a) (mem_befores.mp (by rw [← e2]; simp))).a
      have l4 : (os1.flatMap fun o => (waysOf hs a o).filter fun w => decide (minS w = a)).length + ((waysOf hs a b).filter fun w => decide (minS w = a)).length ≤ 326 := by
        refine Nat.le_trans ?_ l3
        unfold lringsFrom
        rw [← e2, List.flatMap_append, List.flatMap_cons, List.length_append, List.length_append]
        omega
      have wl := waysOf_len okh h6 a b
      dsimp only [mRet, mSeq, mIf, mSet, mSetO, mCB, mACons, mANil, mOp, mC, mCall, mDrop, mTst, mTru, mNot, mAnd, mOr, mAndV, mOrV, mNotV, mIfE, mLst, mTup, mLCons, mLNil, mDat, mNext, mChain, mIsi, mIsi2, mLc, mLc2, mWalk, mWalkD, mWalkS, mRng1, mRng2, mgN, mgT, mgCons, mgNil, mAsg, mFld, mProp, mMeth, mLenSet, mSortLR, mDGet, mDisp, mApp, mExt, mFor, mRetO, mPar2, mSto, mCallR, mFldS, mNever, mYes, mLenScr, mAs, mDrI, mDrS, mCells, mWalkScr, mDrPop, mAppPop, mSl, mOSome, mONone, mRev, mJoin, mFrz, mCallO, mSetCD, mDGetO, mDPutO, mFrzD, mAsgPop, mCallF, mSetF, mPar2F, mAppF, mAppF1, mBest, mIsi2V, mRng3, mReprL, mIndex, mAppT]
      refine var_at rfl rfl (var_at rfl rfl (var_at rfl rfl (var_at rfl rfl ⟨ps, hs, a, b, rfl, ok, okh, ha, hb, false, _, rfl, ?_⟩)))
      refine lc_list tupS (fun w => decide (minS w = a)) tupS id (waysOf hs a b) [] (fun w hw Pt Pf k => ?_) (small (by rw [List.length_nil]; omega)) ?_
      · obtain ⟨⟨n, hn⟩, _⟩ := mem_waysOf hw
        have o := level_ok ha okh.ok n w hn
        have okw : ∀ y ∈ w, OkN y := fun y hy => ok.nm y (o.sub y hy)
        dsimp only [mRet, mSeq, mIf, mSet, mSetO, mCB, mACons, mANil, mOp, mC, mCall, mDrop, mTst, mTru, mNot, mAnd, mOr, mAndV, mOrV, mNotV, mIfE, mLst, mTup, mLCons, mLNil, mDat, mNext, mChain, mIsi, mIsi2, mLc, mLc2, mWalk, mWalkD, mWalkS, mRng1, mRng2, mgN, mgT, mgCons, mgNil, mAsg, mFld, mProp, mMeth, mLenSet, mSortLR, mDGet, mDisp, mApp, mExt, mFor, mRetO, mPar2, mSto, mCallR, mFldS, mNever, mYes, mLenScr, mAs, mDrI, mDrS, mCells, mWalkScr, mDrPop, mAppPop, mSl, mOSome, mONone, mRev, mJoin, mFrz, mCallO, mSetCD, mDGetO, mDPutO, mFrzD, mAsgPop, mCallF, mSetF, mPar2F, mAppF, mAppF1, mBest, mIsi2V, mRng3, mReprL, mIndex, mAppT]
        refine var_at rfl rfl (min_tup o.ne okw fun hm => var_at rfl rfl ?_)
        refine fEq_of rfl rfl (okw _ hm).nice (ok.nm _ ha).nice _ (eqv_str _ _) (p := ⟨_, rfl, ?_⟩)
        by_cases c : minS w = a
        · rw [if_pos (decide_eq_true c)] at k
          rw [decide_eq_true c, if_pos (by decide)]
          exact var_at rfl rfl ⟨_, rfl, k⟩
        · rw [if_neg (by simpa using c)] at k
          rw [decide_eq_false c, if_neg (by decide)]
          exact k
      rw [List.map_id, List.nil_append]
      refine ⟨_, _, rfl, rfl, small (by rw [List.length_map, List.length_map, List.length_append]; omega), _, rfl, ?_⟩
      refine nx2 _ ⟨os1 ++ [b], some (.d (.str b)), by rw [List.append_assoc]; exact e2, ?_⟩
      rw [List.flatMap_append, List.flatMap_singleton, ← List.append_assoc, List.map_append (l₂ := (waysOf hs a b).filter fun w => decide (minS w = a))]
      rfl
    · rintro ρ ⟨os1, x3, e2, rfl⟩
      rw [List.append_nil] at e2
      subst e2
      refine nx _ ⟨ps1 ++ [a], some (.d (.str a)), x3, by rw [List.append_assoc]; exact e1, ?_⟩
      rw [List.flatMap_append, List.flatMap_singleton]
      rfl
  · rintro ρ ⟨ps1, x2, x3, e1, rfl⟩
    rw [List.append_nil] at e1
    subst e1
    have l1 : (ps1.flatMap (lringsFrom hs)).length ≤ ps1.length * 326 := flat_len fun x hx => lenF x hx
    refine var_at rfl rfl ⟨_, _, rfl, .l _, by omega, ?_⟩
    rw [sortLR_perm (perm_flat fun a _ => lrings_perm okh a)]
    exact p
end
end GL
end
section
set_option linter.all false
set_option maxRecDepth 100000
set_option maxHeartbeats 4000000
namespace GL
open PySem L2 PySem.W PyProof.Rows
variable [TabCx]
/-! ### lots -/
def addAll (L : List (List Str)) (p : Str) : List (List Str) := L ++ L.map fun l => l ++ [p]
def lotsRaw (ps : List Str) : List (List Str) := ps.foldl addAll [[]]
theorem lotsRaw_snoc (ps : List Str) (a : Str) : lotsRaw (ps ++ [a]) = addAll (lotsRaw ps) a := by simp [lotsRaw]
theorem foldl_lots_len : ∀ (qs : List Str) (L : List (List Str)), (qs.foldl addAll L).length = L.length * 2 ^ qs.length
  | [], L => by simp
  | q :: qs, L => by
    rw [List.foldl_cons, foldl_lots_len qs]
    simp only [addAll, List.length_append, List.length_map, List.length_cons, Nat.pow_succ]
    rw [← Nat.mul_two, Nat.mul_assoc, Nat.mul_comm 2]
theorem lotsRaw_len {ps : List Str} (h6 : ps.length ≤ 6) : (lotsRaw ps).length ≤ 64 := by
  unfold lotsRaw
  rw [foldl_lots_len]
  have : 2 ^ ps.length ≤ 2 ^ 6 := Nat.pow_le_pow_right (by decide) h6
  simpa using this
theorem foldl_lots_sub : ∀ (qs qs1 : List Str) (L : List (List Str)), (∀ l ∈ L, l.Sublist qs1) → ∀ l ∈ qs.foldl addAll L, l.Sublist (qs1 ++ qs)
  | [], qs1, L, h, l, hl => by simpa using h l hl
  | q :: qs, qs1, L, h, l, hl => by
    have := foldl_lots_sub qs (qs1 ++ [q]) (addAll L q) (fun m hm => by
      rcases List.mem_append.mp hm with z | z
      · exact (h m z).trans (List.sublist_append_left _ _)
      · obtain ⟨u, hu, rfl⟩ := List.mem_map.mp z
        exact (h u hu).append (List.Sublist.refl _)) l hl
    simpa using this
theorem lotsRaw_sub {ps l : List Str} (h : l ∈ lotsRaw ps) : l.Sublist ps := by
  have := foldl_lots_sub ps [] [[]] (fun l hl => by rw [List.mem_singleton.mp hl]; exact List.Sublist.refl _) l h
  simpa using this
theorem foldl_lots_all : ∀ (qs : List Str) (L : List (List Str)) (l : List Str), l ∈ L → l ++ qs ∈ qs.foldl addAll L
  | [], L, l, h => by simpa using h
  | q :: qs, L, l, h => by
    have := foldl_lots_all qs (addAll L q) (l ++ [q]) (List.mem_append_right _ (List.mem_map.mpr ⟨l, h, rfl⟩))
    simpa using this
theorem lotsRaw_all (ps : List Str) : ps ∈ lotsRaw ps := by
  have := foldl_lots_all ps [[]] [] (by simp)
  rw [List.nil_append] at this
  exact this
def lotsOf (ps : List Str) : List (List Str) := sortLR id (lotsRaw ps)
theorem mem_lotsOf {ps l : List Str} (h : l ∈ lotsOf ps) : l.Sublist ps := lotsRaw_sub (List.mem_mergeSort.mp h)
theorem lotsOf_len {ps : List Str} (h6 : ps.length ≤ 6) : (lotsOf ps).length ≤ 64 := by
  unfold lotsOf sortLR
  rw [List.length_mergeSort]
  exact lotsRaw_len h6
/-! ### least lots -/
def withinS (a b : List Str) : Bool := a.all fun x => decide (x ∈ b)
def commonS (a b : List Str) : Bool := a.any fun x => decide (x ∈ b)
theorem common_comm (a b : List Str) : commonS a b = commonS b a := by
  have h : ∀ a b, commonS a b = true → commonS b a = true := fun a b h => by
    obtain ⟨x, hx, hy⟩ := List.any_eq_true.mp h
    exact List.any_eq_true.mpr ⟨x, of_decide_eq_true hy, decide_eq_true hx⟩
  cases e : commonS a b with
  | true => exact (h a b e).symm
  | false =>
    cases e2 : commonS b a with
    | false => rfl
    | true => rw [h b a e2] at e; cases e
theorem all_id {α : Type} (f : α → Bool) (xs : List α) : (xs.map f).all id = xs.all f := by rw [List.all_map]; rfl
theorem any_id {α : Type} (f : α → Bool) (xs : List α) : (xs.map f).any id = xs.any f := by rw [List.any_map]; rfl
def leastStep (R : List (List Str)) (found : List (List Str)) (lot : List Str) : List (List Str) := if (!found.any (fun s => withinS s lot)) && R.all (fun r => commonS lot r) then found ++ [lot] else found
def leastOf (ps : List Str) (hs : List (Str × Str)) : List (List Str) := (lotsOf ps).foldl (leastStep (ringsOf ps hs)) []
theorem leastStep_len (R found : List (List Str)) (lot : List Str) : (leastStep R found lot).length ≤ found.length + 1 := by
  unfold leastStep
  split <;> simp
theorem least_fold_len (R : List (List Str)) : ∀ (ls found : List (List Str)), (ls.foldl (leastStep R) found).length ≤ found.length + ls.length
  | [], found => by simp
  | l :: ls, found => by
    rw [List.foldl_cons]
    have := least_fold_len R ls (leastStep R found l)
    have := leastStep_len R found l
    rw [List.length_cons]
    omega
theorem least_fold_mem (R : List (List Str)) : ∀ (ls found : List (List Str)) (l : List Str), l ∈ ls.foldl (leastStep R) found → l ∈ found ∨ l ∈ ls
  | [], found, l, h => .inl h
  | m :: ls, found, l, h => by
    rcases least_fold_mem R ls _ l h with z | z
    · unfold leastStep at z
      split at z
      · rcases List.mem_append.mp z with z | z
        · exact .inl z
        · exact .inr (by rw [List.mem_singleton.mp z]; exact List.mem_cons_self)
      · exact .inl z
    · exact .inr (List.mem_cons_of_mem _ z)
theorem least_fold_ne (R : List (List Str)) : ∀ (ls found : List (List Str)), (found ≠ [] ∨ ∃ l ∈ ls, R.all (fun r => commonS l r) = true) → ls.foldl (leastStep R) found ≠ []
  | [], found, h => by
    rcases h with h | ⟨l, hl, _⟩
    · exact h
    · cases hl
  | m :: ls, found, h => by
    rw [List.foldl_cons]
    refine least_fold_ne R ls _ ?_
    by_cases c : found = []
    · rcases h with h | ⟨l, hl, hr⟩
      · exact absurd c h
      · rcases List.mem_cons.mp hl with rfl | hl
        · refine .inl ?_
          unfold leastStep
          rw [c, hr]
          simp
        · exact .inr ⟨l, hl, hr⟩
    · refine .inl ?_
      unfold leastStep
      split
      · simp
      · exact c
theorem ring_sub {ps : List Str} {hs : List (Str × Str)} (okh : OkHs ps hs) {r : List Str} (h : r ∈ ringsOf ps hs) : r ≠ [] ∧ ∀ x ∈ r, x ∈ ps := by
  obtain ⟨a, ha, hr⟩ := mem_ringsOf h
  obtain ⟨⟨n, hn⟩, _⟩ := mem_ringsFrom hr
  have o := level_ok ha okh.ok n r hn
  exact ⟨o.ne, o.sub⟩
theorem leastOf_ne {ps : List Str} {hs : List (Str × Str)} (okh : OkHs ps hs) : leastOf ps hs ≠ [] := by
  refine least_fold_ne _ _ _ (.inr ⟨ps, List.mem_mergeSort.mpr (lotsRaw_all ps), List.all_eq_true.mpr fun r hr => ?_⟩)
  obtain ⟨ne, sub⟩ := ring_sub okh hr
  cases r with
  | nil => exact absurd rfl ne
  | cons x r => exact List.any_eq_true.mpr ⟨x, sub x List.mem_cons_self, by simp⟩
structure LotsOk (W : List (List Str)) : Prop where
  len : W.length ≤ 64
  nm : ∀ w ∈ W, ∀ x ∈ w, OkN x
  six : ∀ w ∈ W, w.length ≤ 6
theorem LotsOk.nice {W : List (List Str)} (h : LotsOk W) : Nice 2 (.lst (W.map tupS)) := Nice.lst fun d hd => by
  obtain ⟨w, hw, rfl⟩ := List.mem_map.mp hd
  exact nice_tupS (h.nm w hw)
theorem LotsOk.bulk {W : List (List Str)} (h : LotsOk W) : (D.lst (W.map tupS)).py.bulk ≤ 64 * 43 := bulk_lst (k := 42) (fun d hd => by
  obtain ⟨w, hw, rfl⟩ := List.mem_map.mp hd
  exact bulk_tupS (n := 6) (h.nm w hw) (h.six w hw)) (by rw [List.length_map]; exact h.len)
theorem lots_ok {ps : List Str} (ok : OkPs ps) : LotsOk (lotsOf ps) := ⟨lotsOf_len ok.six, fun w hw x hx => ok.nm x ((mem_lotsOf hw).subset hx), fun w hw => Nat.le_trans (mem_lotsOf hw).length_le ok.six⟩
theorem mem_leastOf {ps : List Str} {hs : List (Str × Str)} {l : List Str} (h : l ∈ leastOf ps hs) : l ∈ lotsOf ps := by
  rcases least_fold_mem _ _ _ l h with z | z
  · cases z
  · exact z
theorem least_ok {ps : List Str} {hs : List (Str × Str)} (ok : OkPs ps) : LotsOk (leastOf ps hs) := by
  have lo := lots_ok ok
  refine ⟨?_, fun w hw => lo.nm w (mem_leastOf hw), fun w hw => lo.six w (mem_leastOf hw)⟩
  have := least_fold_len (ringsOf ps hs) (lotsOf ps) []
  have := lo.len
  unfold leastOf
  simp at *
  omega
theorem nil_eq {n : Nat} {xs : List D} (h : Nice n (.lst xs)) (hn : n ≤ 64) {z : Z} (ez : z.cont = some (.lst xs)) {P : Z → Prop} (p : P (.d (.bl xs.isEmpty))) : fEq false z (.own []) P := by
  refine fEq_of ez rfl h (Nice.lst (n := 0) fun x hx => nomatch hx) xs.isEmpty ?_ hn (p := p)
  cases xs <;> simp [D.py, D.pys, PyData.eqv, PyData.eqvAll]
theorem nil_ne {n : Nat} {xs : List D} (h : Nice n (.lst xs)) (hn : n ≤ 64) {z : Z} (ez : z.cont = some (.lst xs)) {P : Z → Prop} (p : P (.d (.bl (!xs.isEmpty)))) : fEq true z (.own []) P := by
  refine fEq_of ez rfl h (Nice.lst (n := 0) fun x hx => nomatch hx) xs.isEmpty ?_ hn (p := p)
  cases xs <;> simp [D.py, D.pys, PyData.eqv, PyData.eqvAll]
section
variable {K : PySem.W.Frag} {C : Addr} {zs : List Z} {P : Z → Prop}
def S_all_lots : Spc := fun zs P => ∃ ps, zs = [.d (tupS ps)] ∧ OkPs ps ∧ P (.own ((lotsOf ps).map tupS))
theorem lots_turn {α : Type} {ps ps1 rest : List Str} {a : Str} (h6 : ps.length ≤ 6) (e1 : ps1 ++ a :: rest = ps) : (lotsRaw ps1).length ≤ 64 ∧ ∀ l ∈ lotsRaw ps1, l.length ≤ 6 := by
  have l2 : ps1.length ≤ 6 := by
    have := congrArg List.length e1
    rw [List.length_append] at this
    omega
  exact ⟨lotsRaw_len l2, fun l hl => Nat.le_trans (lotsRaw_sub hl).length_le l2⟩
def S__law_parts : Spc := fun zs P => ∃ ps, zs = [.d (.lst (ps.map D.str))] ∧ OkPs ps ∧ sortN ps = ps ∧ P (.own ((lotsOf ps).map tupS))
def S_has_common : Spc := fun zs P => ∃ a b, zs = [.d (tupS a), .d (tupS b)] ∧ (∀ x ∈ a, OkN x) ∧ (∀ x ∈ b, OkN x) ∧ a.length ≤ 6 ∧ P (.d (.bl (commonS a b)))
theorem r_has_common (h : S_has_common zs P) : m_has_common K C { nx := fun _ => P (.d .non), rt := P } (startG N_has_common zs) := by
  obtain ⟨a, b, rfl, oa, ob, hl, p⟩ := h
  dsimp only [m_has_common, mRet, mSeq, mIf, mSet, mSetO, mCB, mACons, mANil, mOp, mC, mCall, mDrop, mTst, mTru, mNot, mAnd, mOr, mAndV, mOrV, mNotV, mIfE, mLst, mTup, mLCons, mLNil, mDat, mNext, mChain, mIsi, mIsi2, mLc, mLc2, mWalk, mWalkD, mWalkS, mRng1, mRng2, mgN, mgT, mgCons, mgNil, mAsg, mFld, mProp, mMeth, mLenSet, mSortLR, mDGet, mDisp, mApp, mExt, mFor, mRetO, mPar2, mSto, mCallR, mFldS, mNever, mYes, mLenScr, mAs, mDrI, mDrS, mCells, mWalkScr, mDrPop, mAppPop, mSl, mOSome, mONone, mRev, mJoin, mFrz, mCallO, mSetCD, mDGetO, mDPutO, mFrzD, mAsgPop, mCallF, mSetF, mPar2F, mAppF, mAppF1, mBest, mIsi2V, mRng3, mReprL, mIndex, mAppT]
  refine var_at rfl rfl ⟨true, _, rfl, ?_⟩
  refine lc_list D.str (fun _ => true) D.bl (fun x => decide (x ∈ b)) a [] (fun x hx Pt Pf k => ?_) (small (by rw [List.length_nil]; omega)) ?_
  · exact var_at rfl rfl (var_at rfl rfl (in_strs (oa x hx) ob ⟨_, rfl⟩ _ rfl false ⟨_, rfl, k⟩))
  · refine ⟨_, _, rfl, rfl, ?_⟩
    rw [filter_yes, any_id]
    exact p
def S_is_within : Spc := fun zs P => ∃ a b, zs = [.d (tupS a), .d (tupS b)] ∧ (∀ x ∈ a, OkN x) ∧ (∀ x ∈ b, OkN x) ∧ a.length ≤ 6 ∧ P (.d (.bl (withinS a b)))
def S_least_leaders (C : Addr) : Spc := fun zs P => ∃ ps hs, zs = [.d (webD C ps hs)] ∧ OkPs ps ∧ OkHs ps hs ∧ P (.own ((leastOf ps hs).map tupS))
theorem found_ok {ps ls1 rest : List (List Str)} {ns : List Str} {R : List (List Str)} (lo : LotsOk ps) (e : ls1 ++ rest = ps) : LotsOk (ls1.foldl (leastStep R) []) := by
  have sub : ∀ w ∈ ls1.foldl (leastStep R) [], w ∈ ps := fun w hw => by
    rcases least_fold_mem R ls1 [] w hw with z | z
    · cases z
    · rw [← e]; exact List.mem_append_left _ z
  refine ⟨?_, fun w hw => lo.nm w (sub w hw), fun w hw => lo.six w (sub w hw)⟩
  have := least_fold_len R ls1 []
  have l := congrArg List.length e
  have := lo.len
  rw [List.length_append] at l
  simp at *
  omega
def S_fewest_leaders (C : Addr) : Spc := fun zs P => ∃ ps hs, zs = [.d (webD C ps hs)] ∧ OkPs ps ∧ OkHs ps hs ∧ P (.d (.int (((leastOf ps hs).headD []).length : Nat)))
theorem head_ix {W : List (List Str)} (ne : W ≠ []) {z : Z} {t : Bool} (ez : z.seq = some (t, W.map tupS)) {P : Z → Prop} (p : P (.d (tupS (W.headD [])))) : fIx z (.d (.int 0)) P := by
  cases W with
  | nil => exact absurd rfl ne
  | cons w r => exact ⟨t, _, _, _, ez, rfl, atI_nat (j := 0) rfl, p⟩
theorem lack_within (a b : List Str) : (a.filter fun x => decide (x ∉ b)).isEmpty = withinS a b := by
  unfold withinS
  induction a with
  | nil => rfl
  | cons x a ih =>
    by_cases c : x ∈ b
    · rw [List.filter_cons_of_neg (by simpa using c), ih, List.all_cons, decide_eq_true c, Bool.true_and]
    · rw [List.filter_cons_of_pos (by simpa using c), List.all_cons, decide_eq_false c]; rfl
theorem have_common (a b : List Str) : (a.filter fun x => decide (x ∈ b)).isEmpty = !commonS a b := by
  unfold commonS
  induction a with
  | nil => rfl
  | cons x a ih =>
    by_cases c : x ∈ b
    · rw [List.filter_cons_of_pos (by simpa using c), List.any_cons, decide_eq_true c]; rfl
    · rw [List.filter_cons_of_neg (by simpa using c), ih, List.any_cons, decide_eq_false c, Bool.false_or]
theorem filter_none {α : Type} (f : α → Bool) (xs : List α) : (xs.filter f).isEmpty = !xs.any f := by
  induction xs with
  | nil => rfl
  | cons x xs ih =>
    cases c : f x with
    | true => rw [List.filter_cons_of_pos c, List.any_cons, c]; rfl
    | false => rw [List.filter_cons_of_neg (by simp [c]), ih, List.any_cons, c, Bool.false_or]
theorem nice_strs1 {ns : List Str} (h : ∀ x ∈ ns, OkN x) : Nice 1 (.lst (ns.map D.str)) := Nice.lst (n := 0) fun d hd => by
  obtain ⟨x, hx, rfl⟩ := List.mem_map.mp hd
  exact (h x hx).nice
theorem nice_tups {W : List (List Str)} (h : ∀ w ∈ W, ∀ x ∈ w, OkN x) : Nice 2 (.lst (W.map tupS)) := Nice.lst fun d hd => by
  obtain ⟨w, hw, rfl⟩ := List.mem_map.mp hd
  exact nice_tupS (h w hw)
def S__law_is_met : Spc := fun zs P => ∃ W l, zs = [.d (.lst (W.map tupS)), .d (tupS l)] ∧ WaysOk W ∧ (∀ x ∈ l, OkN x) ∧ P (.d (.bl (W.all fun w => commonS l w)))
def S__law_least_lots : Spc := fun zs P => ∃ ps hs, zs = [.d (mdD ps hs)] ∧ OkPs ps ∧ OkHs ps hs ∧ sortN ps = ps ∧ P (.own ((leastOf ps hs).map tupS))
end
end GL
end
section
set_option linter.all false
set_option maxRecDepth 100000
set_option maxHeartbeats 4000000
namespace GL
open PySem L2 PySem.W PyProof.Rows
variable [TabCx]
/-! ### what is reached -/
def addS (acc : List Str) (k : Str) : List Str := if k ∈ acc then acc else k :: acc
theorem mem_addS (acc : List Str) (k x : Str) : x ∈ addS acc k ↔ x ∈ acc ∨ x = k := by
  unfold addS
  split
  · rename_i h
    exact ⟨.inl, fun z => z.elim id fun e => e ▸ h⟩
  · rw [List.mem_cons]
    exact Or.comm
theorem mem_fold_addS : ∀ (xs acc : List Str) (x : Str), x ∈ xs.foldl addS acc ↔ x ∈ acc ∨ x ∈ xs
  | [], acc, x => by simp
  | k :: xs, acc, x => by
    rw [List.foldl_cons, mem_fold_addS xs, mem_addS, List.mem_cons, or_assoc]
theorem nd_fold_addS : ∀ (xs acc : List Str), acc.Nodup → (xs.foldl addS acc).Nodup
  | [], acc, h => h
  | k :: xs, acc, h => nd_fold_addS xs _ (by
    unfold addS
    split
    · exact h
    · rename_i n
      exact List.nodup_cons.mpr ⟨n, h⟩)
theorem lcT_list {α : Type} {g : D → Env → (Env → Prop) → Prop} {mt : GMT} {md : GMD} {ρ : Env} {P : List Str → Prop} (e : α → D) (f : α → Str) : ∀ (as : List α) (acc : List Str),
    (∀ a ∈ as, ∀ (Pt : D → Prop) (Pf : Prop), Pt (.str (f a)) → g (e a) ρ fun ρ1 => mt ρ1 fun b => if b = true then md ρ1 Pt else Pf) → acc.length + as.length < 4096 → P ((as.map f).foldl addS acc) → mLcT g mt md (as.map e) ρ acc P
  | [], acc, _, _, h => h
  | a :: as, acc, H, hl, h => by
    rw [List.length_cons] at hl
    refine H a List.mem_cons_self _ _ ⟨f a, rfl, by show acc.length + 1 < 4096; omega, ?_⟩
    refine lcT_list e f as _ (fun b hb => H b (List.mem_cons_of_mem _ hb)) ?_ h
    show (addS acc (f a)).length + as.length < 4096
    unfold addS
    split
    · omega
    · rw [List.length_cons]; omega
def reachedOf (hs : List (Str × Str)) (a : Str) : List Str := sortN (((allWays hs a).map lastS).foldl addS [])
theorem mem_reached {hs : List (Str × Str)} {a x : Str} : x ∈ reachedOf hs a ↔ ∃ w ∈ allWays hs a, lastS w = x := by
  unfold reachedOf
  rw [List.mem_mergeSort, mem_fold_addS]
  simp
theorem reached_nd (hs : List (Str × Str)) (a : Str) : (reachedOf hs a).Nodup := (List.mergeSort_perm _ _).nodup_iff.mpr (nd_fold_addS _ _ List.nodup_nil)
theorem reached_sorted (hs : List (Str × Str)) (a : Str) : (reachedOf hs a).Pairwise fun x y => leS x y = true := linS.sorted _
theorem level_all {ps : List Str} {hs : List (Str × Str)} {a : Str} (ha : a ∈ ps) (ok : ∀ h ∈ hs, OkH ps h) (h6 : ps.length ≤ 6) {n : Nat} {w : List Str} (h : w ∈ level hs a n) : w ∈ allWays hs a := by
  refine List.mem_flatMap.mpr ⟨n, List.mem_range.mpr ?_, h⟩
  rcases Nat.lt_or_ge n 6 with z | z
  · exact z
  · rw [level_end ha ok h6 z] at h; cases h
theorem reached_sub {ps : List Str} {hs : List (Str × Str)} {a x : Str} (ha : a ∈ ps) (ok : ∀ h ∈ hs, OkH ps h) (h : x ∈ reachedOf hs a) : x ∈ ps := by
  obtain ⟨w, hw, rfl⟩ := mem_reached.mp h
  obtain ⟨n, hn⟩ := mem_all hw
  have o := level_ok ha ok n w hn
  exact o.sub _ (lastS_mem o.ne)
theorem reached_self {hs : List (Str × Str)} {a : Str} : a ∈ reachedOf hs a := mem_reached.mpr ⟨[a], List.mem_flatMap.mpr ⟨0, by simp, by simp [level]⟩, rfl⟩
/-- the part of a way up to one of its parties is a way -/
theorem level_upto {hs : List (Str × Str)} {a y : Str} : ∀ (n : Nat) (w : List Str), w ∈ level hs a n → y ∈ w → ∃ m v, v ∈ level hs a m ∧ lastS v = y
  | 0, w, h, hy => by
    obtain rfl : w = [a] := by simpa [level] using h
    exact ⟨0, [a], h, by rw [List.mem_singleton.mp hy]; rfl⟩
  | n + 1, w, h, hy => by
    obtain ⟨v, hv, hw⟩ := List.mem_flatMap.mp h
    obtain ⟨x, e, hx, hh⟩ := mem_grow hw
    subst e
    rcases List.mem_append.mp hy with z | z
    · exact level_upto n v hv z
    · exact ⟨n + 1, v ++ [x], h, by rw [lastS_snoc]; exact (List.mem_singleton.mp z).symm⟩
theorem reached_step {ps : List Str} {hs : List (Str × Str)} {a x y : Str} (ha : a ∈ ps) (ok : ∀ h ∈ hs, OkH ps h) (h6 : ps.length ≤ 6) (h : x ∈ reachedOf hs a) (hh : (x, y) ∈ hs) : y ∈ reachedOf hs a := by
  obtain ⟨w, hw, rfl⟩ := mem_reached.mp h
  obtain ⟨n, hn⟩ := mem_all hw
  by_cases c : y ∈ w
  · obtain ⟨m, v, hv, e⟩ := level_upto n w hn c
    exact mem_reached.mpr ⟨v, level_all ha ok h6 hv, e⟩
  · refine mem_reached.mpr ⟨w ++ [y], level_all ha ok h6 (n := n + 1) (List.mem_flatMap.mpr ⟨w, hn, ?_⟩), lastS_snoc w y⟩
    refine List.mem_map.mpr ⟨y, List.mem_filter.mpr ⟨List.mem_map.mpr ⟨(lastS w, y), List.mem_filter.mpr ⟨hh, by simp⟩, rfl⟩, decide_eq_true c⟩, rfl⟩
theorem reached_least {hs : List (Str × Str)} {a : Str} {L : List Str} (ha : a ∈ L) (cl : ∀ x y, (x, y) ∈ hs → x ∈ L → y ∈ L) {x : Str} (h : x ∈ reachedOf hs a) : x ∈ L := by
  obtain ⟨w, hw, rfl⟩ := mem_reached.mp h
  obtain ⟨n, hn⟩ := mem_all hw
  have : ∀ n w, w ∈ level hs a n → lastS w ∈ L := by
    intro n
    induction n with
    | zero =>
      intro w h
      obtain rfl : w = [a] := by simpa [level] using h
      exact ha
    | succ n ih =>
      intro w h
      obtain ⟨v, hv, hw⟩ := List.mem_flatMap.mp h
      obtain ⟨z, rfl, _, hh⟩ := mem_grow hw
      rw [lastS_snoc]
      exact cl _ _ hh (ih v hv)
  exact this n w hn
/-! ### tied -/
theorem eq_of_mem {xs ys : List Str} (n1 : xs.Nodup) (n2 : ys.Nodup) (s1 : xs.Pairwise fun a b => leS a b = true) (s2 : ys.Pairwise fun a b => leS a b = true) (h : ∀ x, x ∈ xs ↔ x ∈ ys) : xs = ys := by
  have pm : xs.Perm ys := perm_of_sub n2 (fun x hx => (h x).mpr hx) (nodup_sub_len n1 fun x hx => (h x).mp hx)
  have := linS.same pm s2
  rw [← this]
  exact (List.mergeSort_of_pairwise s1).symm
theorem waysOf_isEmpty {hs : List (Str × Str)} {a b : Str} : (waysOf hs a b).isEmpty = !decide (b ∈ reachedOf hs a) := by
  by_cases c : b ∈ reachedOf hs a
  · rw [decide_eq_true c]
    obtain ⟨w, hw, e⟩ := mem_reached.mp c
    have : w ∈ waysOf hs a b := List.mem_mergeSort.mpr (List.mem_filter.mpr ⟨hw, decide_eq_true e⟩)
    cases q : waysOf hs a b with
    | nil => rw [q] at this; cases this
    | cons u r => rfl
  · rw [decide_eq_false c]
    cases q : waysOf hs a b with
    | nil => rfl
    | cons u r =>
      refine absurd ?_ c
      have hu : u ∈ waysOf hs a b := by rw [q]; exact List.mem_cons_self
      obtain ⟨h1, h2⟩ := List.mem_filter.mp (List.mem_mergeSort.mp hu)
      exact mem_reached.mpr ⟨u, h1, of_decide_eq_true h2⟩
def tiedB (ps : List Str) (hs : List (Str × Str)) : Bool := ps.all fun a => (ps.filter fun b => (waysOf hs a b).isEmpty).isEmpty
theorem tied_eq {ps : List Str} {hs : List (Str × Str)} (ok : OkPs ps) (okh : OkHs ps hs) (so : sortN ps = ps) : (ps.all fun a => decide (reachedOf hs a = ps)) = tiedB ps hs := by
  have sp : ps.Pairwise fun a b => leS a b = true := by rw [← so]; exact linS.sorted _
  have key : ∀ a ∈ ps, decide (reachedOf hs a = ps) = (ps.filter fun b => (waysOf hs a b).isEmpty).isEmpty := fun a ha => by
    by_cases c : ∀ b ∈ ps, b ∈ reachedOf hs a
    · rw [decide_eq_true (eq_of_mem (reached_nd hs a) ok.nd (reached_sorted hs a) sp fun x => ⟨reached_sub ha okh.ok, c x⟩)]
      rw [List.isEmpty_iff.mpr]
      refine List.filter_eq_nil_iff.mpr fun b hb => ?_
      rw [waysOf_isEmpty, decide_eq_true (c b hb)]
      decide
    · have : ∃ b, b ∈ ps ∧ b ∉ reachedOf hs a := by
        refine Classical.byContradiction fun n => c fun b hb => Classical.byContradiction fun m => n ⟨b, hb, m⟩
      obtain ⟨b, hb, nb⟩ := this
      rw [decide_eq_false fun e => nb (by rw [e]; exact hb)]
      have hm : b ∈ ps.filter fun b => (waysOf hs a b).isEmpty := List.mem_filter.mpr ⟨hb, by rw [waysOf_isEmpty, decide_eq_false nb]; rfl⟩
      cases q : ps.filter fun b => (waysOf hs a b).isEmpty with
      | nil => rw [q] at hm; cases hm
      | cons u r => rfl
  unfold tiedB
  have aux : ∀ qs : List Str, (∀ a ∈ qs, a ∈ ps) → (qs.all fun a => decide (reachedOf hs a = ps)) = qs.all fun a => (ps.filter fun b => (waysOf hs a b).isEmpty).isEmpty := by
    intro qs
    induction qs with
    | nil => intro _; rfl
    | cons q qs ih =>
      intro h
      rw [List.all_cons, List.all_cons, key q (h q List.mem_cons_self), ih fun a ha => h a (List.mem_cons_of_mem _ ha)]
  exact aux ps fun _ h => h
/-! ### closed lots -/
def goodC (ps : List Str) (hs : List (Str × Str)) (R : List Str) : Bool := decide (R ≠ ps) && R.all fun x => decide (reachedOf hs x = R)
def cstep (ps : List Str) (hs : List (Str × Str)) (found : List (List Str)) (p : Str) : List (List Str) := if goodC ps hs (reachedOf hs p) && decide (reachedOf hs p ∉ found) then found ++ [reachedOf hs p] else found
theorem mem_cstep {ps : List Str} {hs : List (Str × Str)} : ∀ (qs : List Str) (found : List (List Str)) (L : List Str), L ∈ qs.foldl (cstep ps hs) found ↔ L ∈ found ∨ ∃ p ∈ qs, L = reachedOf hs p ∧ goodC ps hs L = true
  | [], found, L => by simp
  | q :: qs, found, L => by
    rw [List.foldl_cons, mem_cstep qs]
    have one : L ∈ cstep ps hs found q ↔ L ∈ found ∨ (L = reachedOf hs q ∧ goodC ps hs L = true) := by
      unfold cstep
      by_cases c : (goodC ps hs (reachedOf hs q) && decide (reachedOf hs q ∉ found)) = true
      · rw [if_pos c]
        have c' := (Bool.and_eq_true_iff.mp c).1
        rw [List.mem_append, List.mem_singleton]
        exact ⟨fun z => z.imp id fun e => ⟨e, by rw [e]; exact c'⟩, fun z => z.imp id fun e => e.1⟩
      · rw [if_neg c]
        refine ⟨.inl, fun z => z.elim id fun ⟨e, g⟩ => ?_⟩
        subst e
        rw [g, Bool.true_and] at c
        exact Classical.byContradiction fun n => c (decide_eq_true n)
    rw [one]
    constructor
    · rintro ((z | ⟨e, g⟩) | ⟨p, hp, e, g⟩)
      · exact .inl z
      · exact .inr ⟨q, List.mem_cons_self, e, g⟩
      · exact .inr ⟨p, List.mem_cons_of_mem _ hp, e, g⟩
    · rintro (z | ⟨p, hp, e, g⟩)
      · exact .inl (.inl z)
      · rcases List.mem_cons.mp hp with rfl | hp
        · exact .inl (.inr ⟨e, g⟩)
        · exact .inr ⟨p, hp, e, g⟩
theorem nd_cstep {ps : List Str} {hs : List (Str × Str)} : ∀ (qs : List Str) (found : List (List Str)), found.Nodup → (qs.foldl (cstep ps hs) found).Nodup
  | [], _, h => h
  | q :: qs, found, h => nd_cstep qs _ (by
    unfold cstep
    split
    · rename_i c
      have c2 := of_decide_eq_true (Bool.and_eq_true_iff.mp c).2
      rw [List.nodup_append]
      exact ⟨h, by simp, fun x hx y hy e => c2 (by rw [← List.mem_singleton.mp hy, ← e]; exact hx)⟩
    · exact h)
theorem len_cstep {ps : List Str} {hs : List (Str × Str)} : ∀ (qs : List Str) (found : List (List Str)), (qs.foldl (cstep ps hs) found).length ≤ found.length + qs.length
  | [], _ => by simp
  | q :: qs, found => by
    have := len_cstep (ps := ps) (hs := hs) qs (cstep ps hs found q)
    have l : (cstep ps hs found q).length ≤ found.length + 1 := by
      unfold cstep
      split <;> simp
    rw [List.foldl_cons, List.length_cons]
    omega
def closedB (hs : List (Str × Str)) (L : List Str) : Bool := !hs.any fun h => decide (h.1 ∈ L) && decide (h.2 ∉ L)
theorem closedB_iff {hs : List (Str × Str)} {L : List Str} : closedB hs L = true ↔ ∀ x y, (x, y) ∈ hs → x ∈ L → y ∈ L := by
  unfold closedB
  rw [Bool.not_eq_true', List.any_eq_false]
  constructor
  · intro h x y hh hx
    have := h (x, y) hh
    rw [decide_eq_true hx, Bool.true_and] at this
    exact Classical.byContradiction fun n => this (decide_eq_true n)
  · intro h z hz c
    obtain ⟨x, y⟩ := z
    obtain ⟨c1, c2⟩ := Bool.and_eq_true_iff.mp c
    exact (of_decide_eq_true c2) (h x y hz (of_decide_eq_true c1))
def innerLots (ps : List Str) : List (List Str) := ((lotsOf ps).drop 1).take ((lotsOf ps).length - 1 - 1)
def someOf (ps : List Str) (hs : List (Str × Str)) : List (List Str) := (innerLots ps).filter (closedB hs)
def lessOf (S : List (List Str)) (L : List Str) : List (List Str) := S.filter fun O => decide (O.length < L.length) && withinS O L
def lclosedOf (ps : List Str) (hs : List (Str × Str)) : List (List Str) := (someOf ps hs).filter fun L => (lessOf (someOf ps hs) L).isEmpty
theorem foldl_lots_has : ∀ (qs : List Str) (L : List (List Str)) (l1 l2 : List Str), l1 ∈ L → l2.Sublist qs → l1 ++ l2 ∈ qs.foldl addAll L
  | [], L, l1, l2, h, s => by
    cases s
    simpa using h
  | q :: qs, L, l1, l2, h, s => by
    rw [List.foldl_cons]
    cases s with
    | cons _ s => exact foldl_lots_has qs _ l1 l2 (List.mem_append_left _ h) s
    | cons_cons _ s =>
      have := foldl_lots_has qs (addAll L q) (l1 ++ [q]) _ (List.mem_append_right _ (List.mem_map.mpr ⟨l1, h, rfl⟩)) s
      simpa using this
theorem lotsOf_has {ps l : List Str} (s : l.Sublist ps) : l ∈ lotsOf ps := by
  have := foldl_lots_has ps [[]] [] l (by simp) s
  rw [List.nil_append] at this
  exact List.mem_mergeSort.mpr this
theorem foldl_lots_nd : ∀ (qs : List Str) (L : List (List Str)), L.Nodup → qs.Nodup → (∀ l ∈ L, ∀ x ∈ l, x ∉ qs) → (qs.foldl addAll L).Nodup
  | [], L, h, _, _ => h
  | q :: qs, L, h, nq, dj => by
    obtain ⟨n1, n2⟩ := List.nodup_cons.mp nq
    refine foldl_lots_nd qs _ ?_ n2 fun l hl x hx hq => ?_
    · unfold addAll
      rw [List.nodup_append]
      refine ⟨h, List.Pairwise.map _ (fun a b ne e => ne (List.append_cancel_right e)) h, fun a ha b hb e => ?_⟩
      obtain ⟨c, hc, rfl⟩ := List.mem_map.mp hb
      exact dj a ha q (by rw [e]; simp) List.mem_cons_self
    · rcases List.mem_append.mp hl with z | z
      · exact dj l z x hx (List.mem_cons_of_mem _ hq)
      · obtain ⟨c, hc, rfl⟩ := List.mem_map.mp z
        rcases List.mem_append.mp hx with y | y
        · exact dj c hc x y (List.mem_cons_of_mem _ hq)
        · rw [List.mem_singleton.mp y] at hq; exact n1 hq
theorem lotsOf_nd {ps : List Str} (nd : ps.Nodup) : (lotsOf ps).Nodup := (List.mergeSort_perm _ _).nodup_iff.mpr (foldl_lots_nd ps [[]] (by simp) nd (by simp))
theorem lotsOf_sorted (ps : List Str) : (lotsOf ps).Pairwise fun a b => dataLe false (fun b : List Str => keyLR (id b)) a b = true := linLR.sorted _
theorem le_len {a b : List Str} (h : dataLe false (fun b : List Str => keyLR (id b)) a b = true) : a.length ≤ b.length := by
  have h1 : (!PyProof.Rows.lexLt itemOrd (keyToks (keyLR b)) (keyToks (keyLR a))) = true := h
  rw [Bool.not_eq_true'] at h1
  rcases Nat.lt_or_ge b.length a.length with c | c
  · exfalso
    simp only [keyLR, keyToks, keyToksAll, List.cons_append, List.nil_append] at h1
    rw [lex_self (O := itemOrd), lex_diff (O := itemOrd) (by simp; omega)] at h1
    have h2 : decide ((b.length : Int) < (a.length : Int)) = false := h1
    have := of_decide_eq_false h2
    omega
  · exact c
theorem mem_inner {ps L : List Str} (ok : OkPs ps) : L ∈ innerLots ps ↔ L.Sublist ps ∧ L ≠ [] ∧ L ≠ ps := by
  have nd := lotsOf_nd ok.nd
  have so := lotsOf_sorted ps
  have he : [] ∈ lotsOf ps := lotsOf_has (List.nil_sublist ps)
  have hf : ps ∈ lotsOf ps := lotsOf_has (List.Sublist.refl ps)
  have two := ok.two
  -- the first is nobody
  obtain ⟨r, er⟩ : ∃ r, lotsOf ps = [] :: r := by
    cases q : lotsOf ps with
    | nil => rw [q] at he; cases he
    | cons w r =>
      by_cases c : w = []
      · exact ⟨r, by rw [c]⟩
      · rw [q] at he so
        have h1 : [] ∈ r := by
          rcases List.mem_cons.mp he with e | e
          · exact absurd e.symm c
          · exact e
        have := le_len ((List.pairwise_cons.mp so).1 [] h1)
        exact absurd (List.length_eq_zero_iff.mp (by simpa using this)) c
  -- the last is all
  have nps : ps ≠ [] := fun e => by rw [e] at two; simp at two
  have hfr : ps ∈ r := by
    rw [er] at hf
    rcases List.mem_cons.mp hf with e | e
    · exact absurd e nps
    · exact e
  obtain ⟨m, em⟩ : ∃ m, r = m ++ [ps] := by
    rcases List.eq_nil_or_concat r with e | ⟨m, z, e⟩
    · rw [e] at hfr; cases hfr
    · rw [List.concat_eq_append] at e
      refine ⟨m, ?_⟩
      by_cases c : z = ps
      · rw [e, c]
      · exfalso
        have h1 : ps ∈ m := by
          rw [e] at hfr
          rcases List.mem_append.mp hfr with y | y
          · exact y
          · exact absurd (List.mem_singleton.mp y).symm c
        have so2 := so
        rw [er, e] at so2
        have so3 := (List.pairwise_append.mp (List.pairwise_cons.mp so2).2).2.2 ps h1 z (by simp)
        have hz : z.Sublist ps := mem_lotsOf (by rw [er, e]; simp)
        exact c (hz.eq_of_length_le (le_len so3))
  have ei : innerLots ps = m := by
    unfold innerLots
    rw [er, em]
    simp
  rw [ei]
  rw [er, em] at nd
  obtain ⟨n1, n2⟩ := List.nodup_cons.mp nd
  rw [List.nodup_append] at n2
  constructor
  · intro h
    refine ⟨mem_lotsOf (by rw [er, em]; simp [h]), fun e => n1 (by rw [← e]; simp [h]), fun e => n2.2.2 L h ps (by simp) e⟩
  · rintro ⟨h1, h2, h3⟩
    have := lotsOf_has h1
    rw [er, em] at this
    rcases List.mem_cons.mp this with e | e
    · exact absurd e h2
    · rcases List.mem_append.mp e with y | y
      · exact y
      · exact absurd (List.mem_singleton.mp y) h3
theorem inner_sub (ps : List Str) : (innerLots ps).Sublist (lotsOf ps) := (List.take_sublist _ _).trans (List.drop_sublist _ _)
theorem reached_sublist {ps : List Str} {hs : List (Str × Str)} (ok : OkPs ps) (okh : OkHs ps hs) (so : sortN ps = ps) {a : Str} (ha : a ∈ ps) : (reachedOf hs a).Sublist ps := by
  have sp : ps.Pairwise fun a b => leS a b = true := by rw [← so]; exact linS.sorted _
  have e : reachedOf hs a = ps.filter fun x => decide (x ∈ reachedOf hs a) := eq_of_mem (reached_nd hs a) (List.Pairwise.filter _ ok.nd) (reached_sorted hs a) (List.Pairwise.filter _ sp) fun x => by
    rw [List.mem_filter, decide_eq_true_eq]
    exact ⟨fun h => ⟨reached_sub ha okh.ok h, h⟩, fun h => h.2⟩
  rw [e]
  exact List.filter_sublist
theorem mem_less {S : List (List Str)} {L O : List Str} : O ∈ lessOf S L ↔ O ∈ S ∧ O.length < L.length ∧ ∀ x ∈ O, x ∈ L := by
  unfold lessOf withinS
  rw [List.mem_filter, Bool.and_eq_true, decide_eq_true_eq, List.all_eq_true]
  simp only [decide_eq_true_eq]
theorem closed_eq {ps : List Str} {hs : List (Str × Str)} (ok : OkPs ps) (okh : OkHs ps hs) (so : sortN ps = ps) : sortLR id (ps.foldl (cstep ps hs) []) = lclosedOf ps hs := by
  have sp : ps.Pairwise fun a b => leS a b = true := by rw [← so]; exact linS.sorted _
  have h6 := ok.six
  have subl : (lclosedOf ps hs).Sublist (lotsOf ps) := (List.filter_sublist.trans List.filter_sublist).trans (inner_sub ps)
  have nb : (lclosedOf ps hs).Nodup := (lotsOf_nd ok.nd).sublist subl
  have na : (ps.foldl (cstep ps hs) []).Nodup := nd_cstep ps [] List.nodup_nil
  have mem : ∀ L, L ∈ ps.foldl (cstep ps hs) [] ↔ L ∈ lclosedOf ps hs := fun L => by
    rw [mem_cstep]
    unfold lclosedOf someOf
    rw [List.mem_filter, List.mem_filter, mem_inner ok, closedB_iff, List.isEmpty_iff]
    constructor
    · rintro (z | ⟨p, hp, rfl, g⟩)
      · cases z
      · obtain ⟨g1, g2⟩ := Bool.and_eq_true_iff.mp g
        have g1 := of_decide_eq_true g1
        have g2 : ∀ x ∈ reachedOf hs p, reachedOf hs x = reachedOf hs p := fun x hx => of_decide_eq_true (List.all_eq_true.mp g2 x hx)
        refine ⟨⟨⟨reached_sublist ok okh so hp, fun e => ?_, g1⟩, fun x y hh hx => reached_step hp okh.ok h6 hx hh⟩, ?_⟩
        · have := reached_self (hs := hs) (a := p)
          rw [e] at this; cases this
        · refine List.eq_nil_iff_forall_not_mem.mpr fun O hO => ?_
          obtain ⟨o1, o2, o3⟩ := mem_less.mp hO
          obtain ⟨o4, o5⟩ := List.mem_filter.mp o1
          obtain ⟨o6, o7, o8⟩ := (mem_inner ok).mp o4
          have o5 := closedB_iff.mp o5
          cases O with
          | nil => exact o7 rfl
          | cons x r =>
            have hx := o3 x List.mem_cons_self
            have : (reachedOf hs p).length ≤ (x :: r).length := nodup_sub_len (reached_nd hs p) fun y hy => by
              rw [← g2 x hx] at hy
              exact reached_least (L := x :: r) List.mem_cons_self o5 hy
            omega
    · rintro ⟨⟨⟨l1, l2, l3⟩, cl⟩, mn⟩
      have each : ∀ x ∈ L, reachedOf hs x = L := fun x hx => by
        have hxp := l1.subset hx
        have sub : ∀ y ∈ reachedOf hs x, y ∈ L := fun y hy => reached_least hx cl hy
        have ndL := ok.nd.sublist l1
        have sL : L.Pairwise fun a b => leS a b = true := sp.sublist l1
        rcases Nat.lt_or_ge (reachedOf hs x).length L.length with c | c
        · exfalso
          have : reachedOf hs x ∈ lessOf ((innerLots ps).filter (closedB hs)) L := mem_less.mpr ⟨List.mem_filter.mpr ⟨(mem_inner ok).mpr ⟨reached_sublist ok okh so hxp, fun e => ?_, fun e => ?_⟩, closedB_iff.mpr fun u v hh hu => reached_step hxp okh.ok h6 hu hh⟩, c, sub⟩
          · rw [mn] at this; cases this
          · have := reached_self (hs := hs) (a := x)
            rw [e] at this; cases this
          · rw [e] at c
            have := l1.length_le
            omega
        · have pm : L.Perm (reachedOf hs x) := perm_of_sub (reached_nd hs x) sub c
          exact eq_of_mem (reached_nd hs x) ndL (reached_sorted hs x) sL fun y => pm.symm.mem_iff
      cases L with
      | nil => exact absurd rfl l2
      | cons x r =>
        refine .inr ⟨x, l1.subset List.mem_cons_self, (each x List.mem_cons_self).symm, ?_⟩
        unfold goodC
        rw [decide_eq_true l3, Bool.true_and]
        exact List.all_eq_true.mpr fun y hy => decide_eq_true (each y hy)
  have pm : (ps.foldl (cstep ps hs) []).Perm (lclosedOf ps hs) := perm_of_sub nb (fun x hx => (mem x).mpr hx) (nodup_sub_len na fun x hx => (mem x).mp hx)
  exact linLR.same pm ((lotsOf_sorted ps).sublist subl)
theorem any_tups (xs : List (List Str)) (y : List Str) : ((xs.map tupS).any fun z => PyData.eqv z.py (tupS y).py) = decide (y ∈ xs) := by
  rw [List.any_map]
  by_cases h : y ∈ xs
  · rw [decide_eq_true h, List.any_eq_true]
    exact ⟨y, h, by simp [eqv_tupS]⟩
  · rw [decide_eq_false h, List.any_eq_false]
    intro x hx
    simp only [Function.comp, eqv_tupS, decide_eq_true_eq]
    rintro rfl
    exact h hx
theorem notin_tups {W : List (List Str)} {y : List Str} (oy : ∀ x ∈ y, OkN x) (ow : ∀ w ∈ W, ∀ x ∈ w, OkN x) {z : Z} {t : Bool} (ez : z.seq = some (t, W.map tupS)) {P : Z → Prop} (p : P (.d (.bl (decide (y ∉ W))))) : fIn true (.d (tupS y)) z P := by
  refine ⟨tupS y, t, _, rfl, ez, (nice_tupS oy).ok (by decide), (nice_tups ow).ok (by decide), ?_⟩
  rw [any_tups]
  simpa using p
theorem filter_isEmpty {α : Type} (f g : α → Bool) (xs : List α) (h : ∀ x ∈ xs, f x = g x) : (xs.filter f).isEmpty = (xs.filter g).isEmpty := by rw [List.filter_congr h]
section
variable {K : PySem.W.Frag} {C : Addr} {zs : List Z} {P : Z → Prop}
def S_reached (C : Addr) : Spc := fun zs P => ∃ ps hs a, zs = [.d (webD C ps hs), .d (.str a)] ∧ OkPs ps ∧ OkHs ps hs ∧ a ∈ ps ∧ P (.d (tupS (reachedOf hs a)))
theorem reached_ok {ps : List Str} {hs : List (Str × Str)} (ok : OkPs ps) (okh : OkHs ps hs) {a : Str} (ha : a ∈ ps) : (∀ x ∈ reachedOf hs a, OkN x) ∧ (reachedOf hs a).length ≤ 6 := ⟨fun x hx => ok.nm x (reached_sub ha okh.ok hx), Nat.le_trans (nodup_sub_len (reached_nd hs a) fun x hx => reached_sub ha okh.ok hx) ok.six⟩
def S_is_tied (C : Addr) : Spc := fun zs P => ∃ ps hs, zs = [.d (webD C ps hs)] ∧ OkPs ps ∧ OkHs ps hs ∧ sortN ps = ps ∧ P (.d (.bl (tiedB ps hs)))
def S_is_least_closed (C : Addr) : Spc := fun zs P => ∃ ps hs L, zs = [.d (webD C ps hs), .d (tupS L)] ∧ OkPs ps ∧ OkHs ps hs ∧ (∀ x ∈ L, x ∈ ps) ∧ L.length ≤ 6 ∧ P (.d (.bl (L.all fun x => decide (reachedOf hs x = L))))
def S_closed_lots (C : Addr) : Spc := fun zs P => ∃ ps hs, zs = [.d (webD C ps hs)] ∧ OkPs ps ∧ OkHs ps hs ∧ sortN ps = ps ∧ P (.own ((lclosedOf ps hs).map tupS))
def S__law_is_closed : Spc := fun zs P => ∃ ps hs L, zs = [.d (mdD ps hs), .d (tupS L)] ∧ OkPs ps ∧ OkHs ps hs ∧ (∀ x ∈ L, OkN x) ∧ P (.d (.bl (closedB hs L)))
end
end GL
end
section
set_option linter.all false
set_option maxRecDepth 100000
set_option maxHeartbeats 4000000
namespace GL
open PySem L2 PySem.W PyProof.Rows
variable [TabCx]
/-! ### who can lay -/
def canLay (hs : List (Str × Str)) (lead L : List Str) (p : Str) : Bool := decide (p ∈ lead) || (befores hs p).all fun g => decide (g ∈ L)
def nextL (ps : List Str) (hs : List (Str × Str)) (lead L : List Str) : List Str := (ps.filter fun p => decide (p ∉ L)).filter (canLay hs lead L)
def stepL (ps : List Str) (hs : List (Str × Str)) (lead L : List Str) : List Str := L ++ (nextL ps hs lead L).take 1
def orderN (ps : List Str) (hs : List (Str × Str)) (lead : List Str) : Nat → List Str
  | 0 => []
  | n + 1 => stepL ps hs lead (orderN ps hs lead n)
def orderOf (ps : List Str) (hs : List (Str × Str)) (lead : List Str) : List Str := orderN ps hs lead ps.length
theorem mem_nextL {ps : List Str} {hs : List (Str × Str)} {lead L : List Str} {x : Str} : x ∈ nextL ps hs lead L ↔ x ∈ ps ∧ x ∉ L ∧ canLay hs lead L x = true := by
  unfold nextL
  rw [List.mem_filter, List.mem_filter, decide_eq_true_eq, and_assoc]
theorem mem_orderN {ps : List Str} {hs : List (Str × Str)} {lead : List Str} : ∀ (n : Nat) {x : Str}, x ∈ orderN ps hs lead n → x ∈ ps
  | 0, x, h => by cases h
  | n + 1, x, h => by
    rcases List.mem_append.mp h with z | z
    · exact mem_orderN n z
    · exact (mem_nextL.mp (List.mem_of_mem_take z)).1
theorem nd_orderN {ps : List Str} {hs : List (Str × Str)} {lead : List Str} : ∀ (n : Nat), (orderN ps hs lead n).Nodup
  | 0 => List.nodup_nil
  | n + 1 => by
    show (orderN ps hs lead n ++ (nextL ps hs lead (orderN ps hs lead n)).take 1).Nodup
    rw [List.nodup_append]
    refine ⟨nd_orderN n, ?_, fun x hx y hy e => (mem_nextL.mp (List.mem_of_mem_take hy)).2.1 (by rw [← e]; exact hx)⟩
    cases nextL ps hs lead (orderN ps hs lead n) with
    | nil => simp
    | cons a r => simp
theorem order_stuck {ps : List Str} {hs : List (Str × Str)} {lead : List Str} {n : Nat} (h : nextL ps hs lead (orderN ps hs lead n) = []) : ∀ m, orderN ps hs lead (n + m) = orderN ps hs lead n
  | 0 => rfl
  | m + 1 => by
    show stepL ps hs lead (orderN ps hs lead (n + m)) = _
    rw [order_stuck h m]
    unfold stepL
    rw [h]
    simp
theorem order_len {ps : List Str} {hs : List (Str × Str)} {lead : List Str} : ∀ n, (orderN ps hs lead n).length = n ∨ nextL ps hs lead (orderN ps hs lead n) = []
  | 0 => .inl rfl
  | n + 1 => by
    rcases order_len (ps := ps) (hs := hs) (lead := lead) n with e | e
    · cases q : nextL ps hs lead (orderN ps hs lead n) with
      | nil =>
        refine .inr ?_
        have := order_stuck q 1
        rw [this]; exact q
      | cons a r =>
        refine .inl ?_
        show (orderN ps hs lead n ++ (nextL ps hs lead (orderN ps hs lead n)).take 1).length = n + 1
        rw [q, List.length_append, e]; rfl
    · refine .inr ?_
      have := order_stuck e 1
      rw [this]; exact e
theorem order_end {ps : List Str} {hs : List (Str × Str)} {lead : List Str} (nd : ps.Nodup) : nextL ps hs lead (orderOf ps hs lead) = [] := by
  unfold orderOf
  rcases order_len (ps := ps) (hs := hs) (lead := lead) ps.length with e | e
  · refine List.eq_nil_iff_forall_not_mem.mpr fun x hx => ?_
    obtain ⟨h1, h2, _⟩ := mem_nextL.mp hx
    have pm : ps.Perm (orderN ps hs lead ps.length) := perm_of_sub (nd_orderN _) (fun x hx => mem_orderN _ hx) (by omega)
    exact h2 (pm.mem_iff.mp h1)
  · exact e
theorem order_at {ps : List Str} {hs : List (Str × Str)} {lead : List Str} {n : Nat} (hn : n ≤ ps.length) (h : nextL ps hs lead (orderN ps hs lead n) = []) : orderN ps hs lead n = orderOf ps hs lead := by
  have := order_stuck h (ps.length - n)
  rw [Nat.add_sub_cancel' hn] at this
  exact this.symm
theorem orderN_le {ps : List Str} {hs : List (Str × Str)} {lead : List Str} (n : Nat) : (orderN ps hs lead n).length ≤ ps.length := nodup_sub_len (nd_orderN n) fun x hx => mem_orderN n hx
/-! ### the least of some texts -/
theorem minD_str : ∀ (xs : List Str) (x : Str), minD (.str x) (xs.map .str) = .str (xs.foldl (fun m y => if dataLt (.str y) (.str m) = true then y else m) x)
  | [], x => rfl
  | y :: xs, x => by
    have e : minD (.str x) ((y :: xs).map .str) = minD (if dataLt (.str y) (.str x) = true then .str y else .str x) (xs.map .str) := rfl
    rw [e, List.foldl_cons]
    by_cases c : dataLt (.str y) (.str x) = true
    · rw [if_pos c, if_pos c]; exact minD_str xs y
    · rw [if_neg c, if_neg c]; exact minD_str xs x
theorem leS_lt (x y : Str) : leS x y = !dataLt (.str y) (.str x) := by
  show sortLe _ _ _ _ _ = _
  unfold sortLe dataLt
  simp only [D.py, cond_false]
theorem fold_min : ∀ (xs : List Str) (x : Str), (xs.foldl (fun m y => if dataLt (.str y) (.str m) = true then y else m) x = x ∨ xs.foldl (fun m y => if dataLt (.str y) (.str m) = true then y else m) x ∈ xs) ∧ leS (xs.foldl (fun m y => if dataLt (.str y) (.str m) = true then y else m) x) x = true ∧ ∀ y ∈ xs, leS (xs.foldl (fun m y => if dataLt (.str y) (.str m) = true then y else m) x) y = true
  | [], x => ⟨.inl rfl, by
    have := linS.total x x
    simpa using this, fun _ h => nomatch h⟩
  | y :: xs, x => by
    rw [List.foldl_cons]
    by_cases c : dataLt (.str y) (.str x) = true
    · rw [if_pos c]
      obtain ⟨h1, h2, h3⟩ := fold_min xs y
      have yx : leS y x = true := by
        have := linS.total x y
        rw [leS_lt x y, c] at this
        simpa using this
      refine ⟨.inr (h1.elim (fun e => by rw [e]; exact List.mem_cons_self) fun e => List.mem_cons_of_mem _ e), linS.trans _ _ _ h2 yx, fun z hz => ?_⟩
      rcases List.mem_cons.mp hz with rfl | hz
      · exact h2
      · exact h3 z hz
    · rw [if_neg c]
      obtain ⟨h1, h2, h3⟩ := fold_min xs x
      have xy : leS x y = true := by rw [leS_lt]; simpa using c
      refine ⟨h1.imp id fun e => List.mem_cons_of_mem _ e, h2, fun z hz => ?_⟩
      rcases List.mem_cons.mp hz with rfl | hz
      · exact linS.trans _ _ _ h2 xy
      · exact h3 z hz
theorem minS_eq (x : Str) (xs : List Str) : minS (x :: xs) = xs.foldl (fun m y => if dataLt (.str y) (.str m) = true then y else m) x := by
  show (match minD (.str x) (xs.map .str) with | .str y => y | _ => Str.empty) = _
  rw [minD_str]
theorem minS_mem {w : List Str} (h : w ≠ []) : minS w ∈ w := by
  cases w with
  | nil => exact absurd rfl h
  | cons x xs =>
    rw [minS_eq]
    rcases (fold_min xs x).1 with e | e
    · rw [e]; exact List.mem_cons_self
    · exact List.mem_cons_of_mem _ e
theorem minS_le {w : List Str} {y : Str} (h : y ∈ w) : leS (minS w) y = true := by
  cases w with
  | nil => cases h
  | cons x xs =>
    rw [minS_eq]
    rcases List.mem_cons.mp h with rfl | h
    · exact (fold_min xs y).2.1
    · exact (fold_min xs x).2.2 y h
theorem minS_of {w : List Str} {m : Str} (hm : m ∈ w) (h : ∀ y ∈ w, leS m y = true) : minS w = m := linS.anti _ _ (minS_le hm) (h _ (minS_mem fun e => by rw [e] at hm; cases hm))
/-! ### paths -/
/-- each hands something to the next one -/
def Links (hs : List (Str × Str)) : List Str → Prop
  | [] => True
  | [_] => True
  | x :: y :: r => (x, y) ∈ hs ∧ Links hs (y :: r)
theorem Links.append {hs : List (Str × Str)} : ∀ {u v : List Str}, Links hs (u ++ v) → Links hs u ∧ Links hs v
  | [], v, h => ⟨trivial, h⟩
  | [x], v, h => ⟨trivial, by
    cases v with
    | nil => trivial
    | cons y r => exact h.2⟩
  | x :: y :: r, v, h => by
    have := Links.append (u := y :: r) (v := v) h.2
    exact ⟨⟨h.1, this.1⟩, this.2⟩
theorem Links.join {hs : List (Str × Str)} : ∀ {u v : List Str}, Links hs u → Links hs v → (∀ a b, u.getLast? = some a → v.head? = some b → (a, b) ∈ hs) → Links hs (u ++ v)
  | [], v, _, h, _ => h
  | [x], v, _, h, k => by
    cases v with
    | nil => trivial
    | cons y r => exact ⟨k x y rfl rfl, h⟩
  | x :: y :: r, v, hu, h, k => ⟨hu.1, Links.join (u := y :: r) hu.2 h fun a b ea eb => k a b (by rw [List.getLast?_cons_cons]; exact ea) eb⟩
theorem links_level {hs : List (Str × Str)} {a : Str} : ∀ (n : Nat) (w : List Str), w.length = n + 1 → w.head? = some a → w.Nodup → Links hs w → w ∈ level hs a n
  | 0, w, hl, hh, _, _ => by
    match w, hl with
    | [x], _ =>
      cases hh
      simp [level]
  | n + 1, w, hl, hh, nd, lk => by
    rcases List.eq_nil_or_concat w with e | ⟨v, x, e⟩
    · rw [e] at hl; simp at hl
    · rw [List.concat_eq_append] at e
      subst e
      have lv : v.length = n + 1 := by rw [List.length_append] at hl; simpa using hl
      have vne : v ≠ [] := fun e => by rw [e] at lv; simp at lv
      have hv : v.head? = some a := by
        cases v with
        | nil => exact absurd rfl vne
        | cons y r => exact hh
      rw [List.nodup_append] at nd
      obtain ⟨l1, _⟩ := lk.append
      have hx : (lastS v, x) ∈ hs := by
        have e2 := split_last vne
        rw [e2, List.append_assoc] at lk
        exact (lk.append.2).1
      refine List.mem_flatMap.mpr ⟨v, links_level n v lv hv nd.1 l1, ?_⟩
      exact List.mem_map.mpr ⟨x, List.mem_filter.mpr ⟨List.mem_map.mpr ⟨(lastS v, x), List.mem_filter.mpr ⟨hx, by simp⟩, rfl⟩, decide_eq_true fun z => nd.2.2 x z x List.mem_cons_self rfl⟩, rfl⟩
theorem level_links {hs : List (Str × Str)} {a : Str} : ∀ (n : Nat) (w : List Str), w ∈ level hs a n → Links hs w
  | 0, w, h => by
    obtain rfl : w = [a] := by simpa [level] using h
    trivial
  | n + 1, w, h => by
    obtain ⟨v, hv, hw⟩ := List.mem_flatMap.mp h
    obtain ⟨x, rfl, hx, hh⟩ := mem_grow hw
    refine (level_links n v hv).join (v := [x]) trivial fun b c eb ec => ?_
    cases ec
    have : lastS v = b := by
      unfold lastS
      rw [List.getLastD_eq_getLast?, eb]; rfl
    rw [← this]
    exact hh
theorem lastS_get {w : List Str} {b : Str} (h : w.getLast? = some b) : lastS w = b := by
  unfold lastS
  rw [List.getLastD_eq_getLast?, h]; rfl
/-- a closed path is a ring, begun with its least party -/
theorem cycle_ring {ps : List Str} {hs : List (Str × Str)} (ok : OkPs ps) (okh : OkHs ps hs) {c : List Str} (ne : c ≠ []) (nd : c.Nodup) (sub : ∀ x ∈ c, x ∈ ps) (lk : Links hs c) (cl : ∀ a b, c.getLast? = some a → c.head? = some b → (a, b) ∈ hs) : ∃ r ∈ ringsOf ps hs, ∀ x, x ∈ r ↔ x ∈ c := by
  have hm := minS_mem ne
  obtain ⟨p, q, e⟩ := List.append_of_mem hm
  generalize hmm : minS c = m at *
  have lk2 := lk
  rw [e] at lk2
  obtain ⟨l1, l2⟩ := lk2.append
  have pm : ((m :: q) ++ p).Perm c := by rw [e]; exact List.perm_append_comm
  have nd2 : ((m :: q) ++ p).Nodup := pm.nodup_iff.mpr nd
  have lk3 : Links hs ((m :: q) ++ p) := l2.join l1 fun a b ea eb => cl a b (by rw [e, List.getLast?_append, ea]; rfl) (by
    rw [e]
    cases p with
    | nil => cases eb
    | cons y r => exact eb)
  have len : ((m :: q) ++ p).length = q.length + p.length + 1 := by rw [List.length_append, List.length_cons]; omega
  have lv := links_level (a := m) (q.length + p.length) _ len rfl nd2 lk3
  have hmp : m ∈ ps := sub m hm
  have mn : minS ((m :: q) ++ p) = m := minS_of List.mem_cons_self fun y hy => by rw [← hmm]; exact minS_le (pm.mem_iff.mp hy)
  have back : (lastS ((m :: q) ++ p), m) ∈ hs := by
    cases p with
    | nil =>
      rw [List.append_nil]
      have : ∃ b, (m :: q).getLast? = some b := ⟨_, List.getLast?_eq_some_getLast (by simp)⟩
      obtain ⟨b, eb⟩ := this
      rw [lastS_get eb]
      exact cl b m (by rw [e]; exact eb) (by rw [e]; rfl)
    | cons y r =>
      obtain ⟨b, eb⟩ : ∃ b, (y :: r).getLast? = some b := ⟨_, List.getLast?_eq_some_getLast (by simp)⟩
      have : (m :: q ++ y :: r).getLast? = some b := by rw [List.getLast?_append, eb]; rfl
      rw [lastS_get this]
      have e2 := split_last (w := y :: r) (by simp)
      rw [lastS_get eb] at e2
      rw [e, e2, List.append_assoc] at lk
      exact (lk.append.2).1
  refine ⟨(m :: q) ++ p, List.mem_mergeSort.mpr (List.mem_flatMap.mpr ⟨m, hmp, List.mem_filter.mpr ⟨level_all hmp okh.ok ok.six lv, ?_⟩⟩), fun x => pm.mem_iff⟩
  rw [mn, decide_eq_true rfl, Bool.true_and]
  exact decide_eq_true back
/-- each in a ring gets something from one in it -/
theorem ring_pred {ps : List Str} {hs : List (Str × Str)} {r : List Str} (h : r ∈ ringsOf ps hs) {x : Str} (hx : x ∈ r) : ∃ y ∈ r, (y, x) ∈ hs := by
  obtain ⟨a, ha, hr⟩ := mem_ringsOf h
  obtain ⟨⟨n, hn⟩, _, hb⟩ := mem_ringsFrom hr
  have lk := level_links n r hn
  have hd : r.head? = some a := by
    have : ∀ n w, w ∈ level hs a n → w.head? = some a := by
      intro n
      induction n with
      | zero =>
        intro w h
        obtain rfl : w = [a] := by simpa [level] using h
        rfl
      | succ n ih =>
        intro w h
        obtain ⟨v, hv, hw⟩ := List.mem_flatMap.mp h
        obtain ⟨z, rfl, _, _⟩ := mem_grow hw
        have := ih v hv
        cases v with
        | nil => cases this
        | cons u v => exact this
    exact this n r hn
  obtain ⟨p, q, e⟩ := List.append_of_mem hx
  rcases List.eq_nil_or_concat p with z | ⟨u, y, z⟩
  · rw [z, List.nil_append] at e
    rw [e] at hd
    have ex : x = a := Option.some.inj hd
    rw [ex]
    exact ⟨lastS r, lastS_mem (fun e2 => by rw [e2] at hx; cases hx), hb⟩
  · rw [List.concat_eq_append] at z
    rw [e, z, List.append_assoc] at lk
    exact ⟨y, by rw [e, z]; simp, (lk.append.2).1⟩
/-! ### all come to lay exactly if each ring has a leader -/
theorem order_avoids {ps : List Str} {hs : List (Str × Str)} {lead r : List Str} (h : r ∈ ringsOf ps hs) (nl : ∀ x ∈ r, x ∉ lead) : ∀ (n : Nat), ∀ x ∈ r, x ∉ orderN ps hs lead n
  | 0, x, _ => by simp [orderN]
  | n + 1, x, hx => fun z => by
    rcases List.mem_append.mp z with z | z
    · exact order_avoids h nl n x hx z
    · obtain ⟨_, _, c⟩ := mem_nextL.mp (List.mem_of_mem_take z)
      unfold canLay at c
      rw [decide_eq_false (nl x hx), Bool.false_or] at c
      obtain ⟨y, hy, hh⟩ := ring_pred h hx
      exact order_avoids h nl n y hy (of_decide_eq_true (List.all_eq_true.mp c y (mem_befores.mpr hh)))
theorem pred_cycle {hs : List (Str × Str)} {U : List Str} (pr : ∀ u ∈ U, ∃ g ∈ U, (g, u) ∈ hs) : ∀ (k : Nat) (w : List Str), w ≠ [] → w.Nodup → (∀ x ∈ w, x ∈ U) → Links hs w → U.length - w.length = k → ∃ c, c ≠ [] ∧ c.Nodup ∧ (∀ x ∈ c, x ∈ U) ∧ Links hs c ∧ ∀ a b, c.getLast? = some a → c.head? = some b → (a, b) ∈ hs
  | k, x :: r, _, nd, sub, lk, hk => by
    obtain ⟨g, hg, hh⟩ := pr x (sub x List.mem_cons_self)
    by_cases c : g ∈ x :: r
    · obtain ⟨p, q, e⟩ := List.append_of_mem c
      have e2 : x :: r = (p ++ [g]) ++ q := by rw [e]; simp
      rw [e2] at lk nd
      refine ⟨p ++ [g], by simp, (List.nodup_append.mp nd).1, fun y hy => sub y (by rw [e2]; exact List.mem_append_left _ hy), lk.append.1, fun a b ea eb => ?_⟩
      rw [List.getLast?_append] at ea
      have ea : g = a := Option.some.inj ea
      have eb' : (x :: r).head? = some b := by
        rw [e2]
        cases p with
        | nil => exact eb
        | cons y t => exact eb
      have : x = b := Option.some.inj eb'
      rw [← ea, ← this]
      exact hh
    · match k with
      | 0 =>
        exfalso
        have := nodup_sub_len (xs := g :: x :: r) (ys := U) (List.nodup_cons.mpr ⟨c, nd⟩) fun y hy => by
          rcases List.mem_cons.mp hy with rfl | hy
          · exact hg
          · exact sub y hy
        rw [List.length_cons] at this
        omega
      | k + 1 =>
        refine pred_cycle pr k (g :: x :: r) (by simp) (List.nodup_cons.mpr ⟨c, nd⟩) (fun y hy => ?_) ⟨hh, lk⟩ (by rw [List.length_cons]; omega)
        rcases List.mem_cons.mp hy with rfl | hy
        · exact hg
        · exact sub y hy
theorem complete_iff {ps : List Str} {hs : List (Str × Str)} (ok : OkPs ps) (okh : OkHs ps hs) (lead : List Str) : (orderOf ps hs lead).length = ps.length ↔ ∀ r ∈ ringsOf ps hs, ∃ x ∈ r, x ∈ lead := by
  constructor
  · intro hl r hr
    refine Classical.byContradiction fun n => ?_
    have nl : ∀ x ∈ r, x ∉ lead := fun x hx hm => n ⟨x, hx, hm⟩
    have pm : ps.Perm (orderOf ps hs lead) := perm_of_sub (nd_orderN _) (fun x hx => mem_orderN _ hx) (by omega)
    obtain ⟨ne, sub⟩ := ring_sub okh hr
    cases r with
    | nil => exact ne rfl
    | cons x r => exact order_avoids hr nl ps.length x List.mem_cons_self (pm.mem_iff.mp (sub x List.mem_cons_self))
  · intro h
    refine Classical.byContradiction fun n => ?_
    have en := order_end (hs := hs) (lead := lead) ok.nd
    let U := ps.filter fun x => decide (x ∉ orderOf ps hs lead)
    have mU : ∀ x, x ∈ U ↔ x ∈ ps ∧ x ∉ orderOf ps hs lead := fun x => by
      show x ∈ ps.filter _ ↔ _
      rw [List.mem_filter, decide_eq_true_eq]
    have stuck : ∀ u ∈ U, u ∉ lead ∧ ∃ g ∈ U, (g, u) ∈ hs := fun u hu => by
      obtain ⟨h1, h2⟩ := (mU u).mp hu
      have nc : ¬ canLay hs lead (orderOf ps hs lead) u = true := fun c => by
        have : u ∈ nextL ps hs lead (orderOf ps hs lead) := mem_nextL.mpr ⟨h1, h2, c⟩
        rw [en] at this; cases this
      unfold canLay at nc
      rw [Bool.or_eq_true, not_or, decide_eq_true_eq, List.all_eq_true] at nc
      refine ⟨nc.1, Classical.byContradiction fun m => nc.2 fun g hg => decide_eq_true (Classical.byContradiction fun z => m ⟨g, (mU g).mpr ⟨(okh.ok _ (mem_befores.mp hg)).a, z⟩, mem_befores.mp hg⟩)⟩
    have hU : ∃ u, u ∈ U := by
      refine Classical.byContradiction fun m => n ?_
      have all : ∀ x ∈ ps, x ∈ orderOf ps hs lead := fun x hx => Classical.byContradiction fun z => m ⟨x, (mU x).mpr ⟨hx, z⟩⟩
      exact Nat.le_antisymm (orderN_le _) (nodup_sub_len ok.nd all)
    obtain ⟨u, hu⟩ := hU
    obtain ⟨c, c1, c2, c3, c4, c5⟩ := pred_cycle (hs := hs) (U := U) (fun u hu => (stuck u hu).2) _ [u] (by simp) (by simp) (fun x hx => by rw [List.mem_singleton.mp hx]; exact hu) trivial rfl
    obtain ⟨r, hr, hm⟩ := cycle_ring ok okh c1 c2 (fun x hx => ((mU x).mp (c3 x hx)).1) c4 c5
    obtain ⟨x, hx, hl⟩ := h r hr
    exact (stuck x (c3 x ((hm x).mp hx))).1 hl
theorem complete_all {ps : List Str} {hs : List (Str × Str)} (ok : OkPs ps) (okh : OkHs ps hs) (lead : List Str) : (orderOf ps hs lead).length = ps.length ↔ (ringsOf ps hs).all (fun r => commonS lead r) = true := by
  rw [complete_iff ok okh, List.all_eq_true]
  constructor
  · intro h r hr
    obtain ⟨x, hx, hl⟩ := h r hr
    exact List.any_eq_true.mpr ⟨x, hl, decide_eq_true hx⟩
  · intro h r hr
    obtain ⟨x, hl, hx⟩ := List.any_eq_true.mp (h r hr)
    exact ⟨x, of_decide_eq_true hx, hl⟩
/-! ### least lots -/
theorem least_has (R : List (List Str)) : ∀ (ls found : List (List Str)) (m : List Str), (m ∈ ls ∧ R.all (fun r => commonS m r) = true) ∨ (∃ s ∈ found, withinS s m = true) → ∃ s ∈ ls.foldl (leastStep R) found, withinS s m = true
  | [], found, m, h => by
    rcases h with ⟨h, _⟩ | h
    · cases h
    · exact h
  | l :: ls, found, m, h => by
    rw [List.foldl_cons]
    refine least_has R ls _ m ?_
    rcases h with ⟨h, ha⟩ | ⟨s, hs, hw⟩
    · rcases List.mem_cons.mp h with rfl | h
      · right
        unfold leastStep
        by_cases c : found.any (fun s => withinS s m) = true
        · obtain ⟨s, hs, hw⟩ := List.any_eq_true.mp c
          refine ⟨s, ?_, hw⟩
          split
          · exact List.mem_append_left _ hs
          · exact hs
        · have c' : found.any (fun s => withinS s m) = false := by simpa using c
          rw [c', ha, if_pos (by rfl)]
          exact ⟨m, by simp, List.all_eq_true.mpr fun x hx => decide_eq_true hx⟩
      · exact .inl ⟨h, ha⟩
    · right
      refine ⟨s, ?_, hw⟩
      unfold leastStep
      split
      · exact List.mem_append_left _ hs
      · exact hs
theorem least_meets (R : List (List Str)) : ∀ (ls found : List (List Str)), (∀ s ∈ found, R.all (fun r => commonS s r) = true) → ∀ s ∈ ls.foldl (leastStep R) found, R.all (fun r => commonS s r) = true
  | [], found, h => h
  | l :: ls, found, h => by
    rw [List.foldl_cons]
    refine least_meets R ls _ fun s hs => ?_
    unfold leastStep at hs
    split at hs
    · rename_i c
      rcases List.mem_append.mp hs with z | z
      · exact h s z
      · rw [List.mem_singleton.mp z]; exact (Bool.and_eq_true_iff.mp c).2
    · exact h s hs
theorem within_trans {a b c : List Str} (h1 : withinS a b = true) (h2 : withinS b c = true) : withinS a c = true := List.all_eq_true.mpr fun x hx => decide_eq_true (of_decide_eq_true (List.all_eq_true.mp h2 x (of_decide_eq_true (List.all_eq_true.mp h1 x hx))))
theorem common_mono {a b r : List Str} (h : withinS a b = true) (hc : commonS a r = true) : commonS b r = true := by
  obtain ⟨x, hx, hr⟩ := List.any_eq_true.mp hc
  exact List.any_eq_true.mpr ⟨x, of_decide_eq_true (List.all_eq_true.mp h x hx), hr⟩
/-- a lot meets all rings exactly if a least lot is within it -/
theorem meets_iff {ps : List Str} {hs : List (Str × Str)} {m : List Str} (hm : m.Sublist ps) : (ringsOf ps hs).all (fun r => commonS m r) = true ↔ ∃ s ∈ leastOf ps hs, withinS s m = true := by
  constructor
  · intro h
    exact least_has _ _ _ m (.inl ⟨lotsOf_has hm, h⟩)
  · rintro ⟨s, hs', hw⟩
    have := least_meets (ringsOf ps hs) (lotsOf ps) [] (fun _ h => nomatch h) s hs'
    exact List.all_eq_true.mpr fun r hr => common_mono hw (List.all_eq_true.mp this r hr)
/-- no part of a least lot meets all rings -/
theorem least_min {ps : List Str} {hs : List (Str × Str)} (nd : ps.Nodup) {l m : List Str} (hl : l ∈ leastOf ps hs) (hm : m.Sublist ps) (hw : withinS m l = true) (hlt : m.length < l.length) : (ringsOf ps hs).all (fun r => commonS m r) = false := by
  cases e : (ringsOf ps hs).all (fun r => commonS m r) with
  | false => rfl
  | true =>
    exfalso
    have so := lotsOf_sorted ps
    have ndl := lotsOf_nd nd
    obtain ⟨A, B, eq⟩ := List.append_of_mem (mem_leastOf hl)
    have hmA : m ∈ A := by
      have hm' := lotsOf_has hm
      rw [eq] at hm' so
      rcases List.mem_append.mp hm' with z | z
      · exact z
      · rcases List.mem_cons.mp z with z | z
        · rw [z] at hlt; exact absurd hlt (Nat.lt_irrefl _)
        · have := le_len ((List.pairwise_cons.mp (List.pairwise_append.mp so).2.1).1 m z)
          omega
    obtain ⟨s, hs1, hs2⟩ := least_has (ringsOf ps hs) A [] m (.inl ⟨hmA, e⟩)
    have hsl := within_trans hs2 hw
    unfold leastOf at hl
    rw [eq, List.foldl_append, List.foldl_cons] at hl
    have nst : leastStep (ringsOf ps hs) (A.foldl (leastStep (ringsOf ps hs)) []) l = A.foldl (leastStep (ringsOf ps hs)) [] := by
      have c : (A.foldl (leastStep (ringsOf ps hs)) []).any (fun s => withinS s l) = true := List.any_eq_true.mpr ⟨s, hs1, hsl⟩
      rw [leastStep, c, if_neg (by simp)]
    rw [nst] at hl
    rw [eq, List.nodup_append] at ndl
    rcases least_fold_mem _ B _ l hl with z | z
    · rcases least_fold_mem _ A _ l z with y | y
      · cases y
      · exact ndl.2.2 l y l List.mem_cons_self rfl
    · exact (List.nodup_cons.mp ndl.2.1).1 z
end GL
end
section
set_option linter.all false
set_option maxRecDepth 100000
set_option maxHeartbeats 4000000
namespace GL
open PySem L2 PySem.W PyProof.Rows
variable [TabCx]
/-- the rings without a leader -/
def ringsW (ps : List Str) (hs : List (Str × Str)) (lead : List Str) : List (List Str) := (ringsOf ps hs).filter fun r => !(r.any fun x => decide (x ∈ lead))
theorem ringsW_ne {ps : List Str} {hs : List (Str × Str)} (ok : OkPs ps) (okh : OkHs ps hs) {lead : List Str} (h : ¬ (orderOf ps hs lead).length = ps.length) : ringsW ps hs lead ≠ [] := fun e => h ((complete_iff ok okh lead).mpr fun r hr => by
  have := List.filter_eq_nil_iff.mp e r hr
  have : r.any (fun x => decide (x ∈ lead)) = true := by simpa using this
  obtain ⟨x, hx, hl⟩ := List.any_eq_true.mp this
  exact ⟨x, hx, of_decide_eq_true hl⟩)
def orderD (ps : List Str) (hs : List (Str × Str)) (lead : List Str) : D := if (orderOf ps hs lead).length = ps.length then .tup [.str "order", .lst ((orderOf ps hs lead).map D.str)] else .tup [.str "ring", tupS ((ringsW ps hs lead).headD [])]
section
variable {K : PySem.W.Frag} {C : Addr} {zs : List Z} {P : Z → Prop}
def S_are_parties_of (C : Addr) : Spc := fun zs P => ∃ ps hs z xs, zs = [.d (webD C ps hs), z] ∧ OkPs ps ∧ Sq z (List.map D.str xs) ∧ (∀ x ∈ xs, x ∈ ps) ∧ xs.Nodup ∧ P (.d (.bl true))
def S_check_leaders (C : Addr) : Spc := fun zs P => ∃ ps hs z xs, zs = [.d (webD C ps hs), z] ∧ OkPs ps ∧ Sq z (List.map D.str xs) ∧ (∀ x ∈ xs, x ∈ ps) ∧ xs.Nodup ∧ P (.d .non)
theorem ix_snd {h : Str × Str} {P : Z → Prop} (p : P (.d (.str h.2))) : fIx (.d (hD h)) (.d (.int 1)) P := ⟨_, _, _, _, rfl, rfl, rfl, p⟩
def S_ins (C : Addr) : Spc := fun zs P => ∃ ps hs x, zs = [.d (webD C ps hs), .d (.str x)] ∧ OkPs ps ∧ OkHs ps hs ∧ x ∈ ps ∧ P (.d (.tup ((hs.filter fun h => decide (h.2 = x)).map hD)))
def S_has_all_givers (C : Addr) : Spc := fun zs P => ∃ ps hs x z L, zs = [.d (webD C ps hs), .d (.str x), z] ∧ OkPs ps ∧ OkHs ps hs ∧ x ∈ ps ∧ Sq z (List.map D.str L) ∧ (∀ y ∈ L, y ∈ ps) ∧ P (.d (.bl ((befores hs x).all fun g => decide (g ∈ L))))
def S_next_layers (C : Addr) : Spc := fun zs P => ∃ ps hs z lead z2 L, zs = [.d (webD C ps hs), z, z2] ∧ OkPs ps ∧ OkHs ps hs ∧ Sq z (List.map D.str lead) ∧ (∀ x ∈ lead, x ∈ ps) ∧ Sq z2 (List.map D.str L) ∧ (∀ x ∈ L, x ∈ ps) ∧ P (.own ((nextL ps hs lead L).map D.str))
def S_longest_laying (C : Addr) : Spc := fun zs P => ∃ ps hs z lead, zs = [.d (webD C ps hs), z] ∧ OkPs ps ∧ OkHs ps hs ∧ Sq z (List.map D.str lead) ∧ (∀ x ∈ lead, x ∈ ps) ∧ P (.own ((orderOf ps hs lead).map D.str))
def S_rings_without (C : Addr) : Spc := fun zs P => ∃ ps hs z lead, zs = [.d (webD C ps hs), z] ∧ OkPs ps ∧ OkHs ps hs ∧ Sq z (List.map D.str lead) ∧ (∀ x ∈ lead, x ∈ ps) ∧ P (.own ((ringsW ps hs lead).map tupS))
def S_order (C : Addr) : Spc := fun zs P => ∃ ps hs z lead, zs = [.d (webD C ps hs), z] ∧ OkPs ps ∧ OkHs ps hs ∧ Sq z (List.map D.str lead) ∧ (∀ x ∈ lead, x ∈ ps) ∧ lead.Nodup ∧ P (.d (orderD ps hs lead))
def S__law_can_lay : Spc := fun zs P => ∃ ps hs z lead x z2 L, zs = [.d (mdD ps hs), z, .d (.str x), z2] ∧ OkPs ps ∧ OkHs ps hs ∧ x ∈ ps ∧ Sq z (List.map D.str lead) ∧ (∀ x ∈ lead, x ∈ ps) ∧ Sq z2 (List.map D.str L) ∧ (∀ x ∈ L, x ∈ ps) ∧ P (.d (.bl (canLay hs lead L x)))
theorem befores_sub {ps : List Str} {hs : List (Str × Str)} (okh : OkHs ps hs) {a x : Str} (h : x ∈ befores hs a) : x ∈ ps := (okh.ok _ (mem_befores.mp h)).a
def S__law_order : Spc := fun zs P => ∃ ps hs z lead, zs = [.d (mdD ps hs), z] ∧ OkPs ps ∧ OkHs ps hs ∧ Sq z (List.map D.str lead) ∧ (∀ x ∈ lead, x ∈ ps) ∧ P (.d (.lst ((orderOf ps hs lead).map D.str)))
end
end GL
end
section
set_option linter.all false
set_option maxRecDepth 100000
set_option maxHeartbeats 4000000
namespace GL
open PySem L2 PySem.W PyProof.Rows
variable [TabCx]
/-! ### rings apart -/
def freeOf (r : List Str) (G : List (List (List Str))) : List (List (List Str)) := G.filter fun g => !(g.any fun o => commonS r o)
def addRing (G : List (List (List Str))) (r : List Str) : List (List (List Str)) := G ++ (freeOf r G).map fun g => g ++ [r]
def groupsOf (R : List (List Str)) : List (List (List Str)) := R.foldl addRing [[]]
def grpD (g : List (List Str)) : D := .lst (g.map tupS)
structure Grp (R : List (List Str)) (g : List (List Str)) : Prop where
  mem : ∀ r ∈ g, r ∈ R
  dj : g.Pairwise fun a b => commonS b a = false
theorem mem_addRing {R : List (List Str)} {G : List (List (List Str))} {r : List Str} (h : ∀ g ∈ G, Grp R g) (hr : r ∈ R) : ∀ g ∈ addRing G r, Grp R g := fun g hg => by
  rcases List.mem_append.mp hg with z | z
  · exact h g z
  · obtain ⟨g', h1, rfl⟩ := List.mem_map.mp z
    obtain ⟨h2, h3⟩ := List.mem_filter.mp h1
    have o := h g' h2
    refine ⟨fun x hx => ?_, List.pairwise_append.mpr ⟨o.dj, List.pairwise_singleton _ _, fun a ha b hb => ?_⟩⟩
    · rcases List.mem_append.mp hx with y | y
      · exact o.mem x y
      · rw [List.mem_singleton.mp y]; exact hr
    · rw [List.mem_singleton.mp hb]
      have h4 : g'.any (fun o => commonS r o) = false := by simpa using h3
      have := List.any_eq_false.mp h4 a ha
      simpa using this
theorem mem_groups {R : List (List Str)} : ∀ (R1 : List (List Str)) (G : List (List (List Str))), (∀ g ∈ G, Grp R g) → (∀ r ∈ R1, r ∈ R) → ∀ g ∈ R1.foldl addRing G, Grp R g
  | [], _, h, _ => h
  | r :: R1, G, h, hr => mem_groups R1 _ (mem_addRing h (hr r List.mem_cons_self)) fun x hx => hr x (List.mem_cons_of_mem _ hx)
theorem groups_ne (R : List (List Str)) : ∀ (G : List (List (List Str))), G ≠ [] → R.foldl addRing G ≠ [] := by
  induction R with
  | nil => exact fun G h => h
  | cons r R ih =>
    intro G h
    refine ih _ ?_
    unfold addRing
    intro e
    exact h (List.append_eq_nil_iff.mp e).1
theorem cnt_groups (q : List Str → Bool) : ∀ (R : List (List Str)) (G : List (List (List Str))) (n : Nat), (∀ k, (G.countP fun g => g.length == k && g.all q) ≤ n ^ k) → ∀ k, ((R.foldl addRing G).countP fun g => g.length == k && g.all q) ≤ (n + R.countP q) ^ k
  | [], G, n, h, k => by
    have := h k
    simpa using this
  | r :: R, G, n, h, k => by
    have step : ∀ k, ((addRing G r).countP fun g => g.length == k && g.all q) ≤ (n + if q r = true then 1 else 0) ^ k := by
      intro k
      unfold addRing
      rw [List.countP_append, List.countP_map]
      cases k with
      | zero =>
        have e : ((freeOf r G).countP ((fun g : List (List Str) => g.length == 0 && g.all q) ∘ fun g => g ++ [r])) = 0 := List.countP_eq_zero.mpr fun g _ => by simp
        rw [e]
        have := h 0
        simpa using this
      | succ k =>
        have e : ((fun g : List (List Str) => g.length == k + 1 && g.all q) ∘ fun g => g ++ [r]) = fun g : List (List Str) => (g.length == k && g.all q) && q r := by
          funext g
          show ((g ++ [r]).length == k + 1 && (g ++ [r]).all q) = _
          rw [List.length_append, List.all_append, List.length_singleton, List.all_cons, List.all_nil, Bool.and_true, ← Bool.and_assoc]
          congr 2
          rw [Bool.eq_iff_iff]
          simp
        rw [e]
        have h1 := h (k + 1)
        have sub : (freeOf r G).Sublist G := List.filter_sublist
        cases hq : q r with
        | true =>
          have h2 : (freeOf r G).countP (fun g => (g.length == k && g.all q) && true) ≤ n ^ k := by
            refine Nat.le_trans (sub.countP_le) ?_
            simpa using h k
          rw [if_pos rfl]
          have h3 : n ^ k ≤ (n + 1) ^ k := Nat.pow_le_pow_left (Nat.le_succ _) k
          have h4 : n ^ (k + 1) + n ^ k ≤ (n + 1) ^ (k + 1) := by
            rw [Nat.pow_succ, Nat.pow_succ, Nat.mul_add, Nat.mul_one]
            exact Nat.add_le_add (Nat.mul_le_mul_right _ h3) h3
          omega
        | false =>
          have h2 : (freeOf r G).countP (fun g => (g.length == k && g.all q) && false) = 0 := List.countP_eq_zero.mpr fun g _ => by simp
          rw [h2, if_neg (by decide)]
          exact h1
    have := cnt_groups q R (addRing G r) _ step k
    rw [List.foldl_cons, List.countP_cons]
    refine Nat.le_trans this (Nat.pow_le_pow_left ?_ k)
    omega
theorem len_by {α : Type} (f : α → Nat) : ∀ (G : List α), (∀ g ∈ G, f g ≤ 3) → G.length ≤ (G.countP fun g => f g == 0) + (G.countP fun g => f g == 1) + (G.countP fun g => f g == 2) + (G.countP fun g => f g == 3)
  | [], _ => by simp
  | g :: G, h => by
    have ih := len_by f G fun x hx => h x (List.mem_cons_of_mem _ hx)
    have hg := h g List.mem_cons_self
    simp only [List.countP_cons, List.length_cons]
    have : f g = 0 ∨ f g = 1 ∨ f g = 2 ∨ f g = 3 := by omega
    rcases this with e | e | e | e <;> rw [e] <;> simp <;> omega
theorem ring_two {ps : List Str} {hs : List (Str × Str)} (okh : OkHs ps hs) {r : List Str} (h : r ∈ ringsOf ps hs) : r.Nodup ∧ 2 ≤ r.length := by
  obtain ⟨a, ha, hr⟩ := mem_ringsOf h
  obtain ⟨⟨n, hn⟩, _, hb⟩ := mem_ringsFrom hr
  have o := level_ok ha okh.ok n r hn
  refine ⟨o.nd, ?_⟩
  have l := o.len
  rcases Nat.eq_zero_or_pos n with z | z
  · exfalso
    subst z
    obtain rfl : r = [a] := by simpa [level] using hn
    exact (okh.ok _ hb).ne rfl
  · omega
theorem two_le {g : List (List Str)} (h : ∀ r ∈ g, 2 ≤ r.length) : 2 * g.length ≤ g.flatten.length := by
  induction g with
  | nil => simp
  | cons r g ih =>
    have := h r List.mem_cons_self
    have := ih fun x hx => h x (List.mem_cons_of_mem _ hx)
    rw [List.flatten_cons, List.length_append, List.length_cons]
    omega
theorem grp_flat {ps : List Str} {hs : List (Str × Str)} (ok : OkPs ps) (okh : OkHs ps hs) {g : List (List Str)} (h : Grp (ringsOf ps hs) g) : g.flatten.length ≤ 6 := by
  refine Nat.le_trans (nodup_sub_len (ys := ps) ?_ fun x hx => ?_) ok.six
  · refine List.pairwise_flatten.mpr ⟨fun r hr => (ring_two okh (h.mem r hr)).1, h.dj.imp fun {a b} hab x hx y hy e => ?_⟩
    subst e
    have := List.any_eq_false.mp hab x hy
    exact this (decide_eq_true hx)
  · obtain ⟨r, hr, hx⟩ := List.mem_flatten.mp hx
    exact (ring_sub okh (h.mem r hr)).2 x hx
theorem grp_three {ps : List Str} {hs : List (Str × Str)} (ok : OkPs ps) (okh : OkHs ps hs) {g : List (List Str)} (h : Grp (ringsOf ps hs) g) : g.length ≤ 3 := by
  have h1 := grp_flat ok okh h
  have h2 := two_le fun r hr => (ring_two okh (h.mem r hr)).2
  omega
theorem all_two : ∀ {g : List (List Str)}, (∀ r ∈ g, 2 ≤ r.length) → g.flatten.length ≤ 2 * g.length → g.all (fun r => r.length == 2) = true
  | [], _, _ => rfl
  | r :: g, h, hl => by
    have h1 := h r List.mem_cons_self
    have hg := fun x hx => h x (List.mem_cons_of_mem r hx)
    have h2 := two_le hg
    rw [List.flatten_cons, List.length_append, List.length_cons] at hl
    rw [List.all_cons, all_two hg (by omega), Bool.and_true]
    have : r.length = 2 := by omega
    rw [this]; rfl
theorem cnt_two {ps : List Str} {hs : List (Str × Str)} (okh : OkHs ps hs) (h6 : ps.length ≤ 6) {a : Str} (ha : a ∈ ps) : (ringsFrom hs a).countP (fun w => w.length == 2) ≤ 5 := by
  refine Nat.le_trans ((List.filter_sublist (p := fun w => decide (minS w = a) && decide ((lastS w, a) ∈ hs)) (l := allWays hs a)).countP_le) ?_
  have z : ∀ n, n ≠ 1 → (level hs a n).countP (fun w => w.length == 2) = 0 := fun n hn => List.countP_eq_zero.mpr fun w hw => by
    have := (level_ok ha okh.ok n w hw).len
    simp
    omega
  have one : (level hs a 1).countP (fun w => w.length == 2) ≤ 5 := Nat.le_trans List.countP_le_length (level_len2 okh h6 ha 1)
  have e : allWays hs a = upTo hs a 6 := rfl
  rw [e, upTo_succ, upTo_succ, upTo_succ, upTo_succ, upTo_succ, upTo_succ]
  simp only [List.countP_append]
  rw [z 0 (by decide), z 2 (by decide), z 3 (by decide), z 4 (by decide), z 5 (by decide)]
  have : (upTo hs a 0).countP (fun w => w.length == 2) = 0 := by simp [upTo]
  omega
theorem cnt_flat {α β : Type} (p : β → Bool) (f : α → List β) (k : Nat) : ∀ (xs : List α), (∀ x ∈ xs, (f x).countP p ≤ k) → (xs.flatMap f).countP p ≤ xs.length * k
  | [], _ => by simp
  | x :: xs, h => by
    have h1 := h x List.mem_cons_self
    have h2 := cnt_flat p f k xs fun y hy => h y (List.mem_cons_of_mem _ hy)
    rw [List.flatMap_cons, List.countP_append, List.length_cons, Nat.succ_mul]
    omega
theorem rings_cnt {ps : List Str} {hs : List (Str × Str)} (ok : OkPs ps) (okh : OkHs ps hs) : (ringsOf ps hs).length ≤ 1956 ∧ (ringsOf ps hs).countP (fun w => w.length == 2) ≤ 30 := by
  have h6 := ok.six
  have l1 := rings_len okh h6 (qs := ps) fun x hx => hx
  have l2 := cnt_flat (fun w : List Str => w.length == 2) (ringsFrom hs) 5 ps fun a ha => cnt_two okh h6 ha
  have pm : (ringsOf ps hs).Perm (ps.flatMap (ringsFrom hs)) := List.mergeSort_perm _ _
  rw [pm.length_eq, pm.countP_eq]
  omega
theorem groups_len {ps : List Str} {hs : List (Str × Str)} (ok : OkPs ps) (okh : OkHs ps hs) {R1 rest : List (List Str)} (e : R1 ++ rest = ringsOf ps hs) : (R1.foldl addRing [[]]).length ≤ 4000000 := by
  have gr := mem_groups (R := ringsOf ps hs) R1 [[]] (fun g hg => by rw [List.mem_singleton.mp hg]; exact ⟨(fun r h => nomatch h), List.Pairwise.nil⟩) fun r hr => by rw [← e]; exact List.mem_append_left _ hr
  obtain ⟨c1, c2⟩ := rings_cnt ok okh
  rw [← e] at c1 c2
  rw [List.length_append] at c1
  rw [List.countP_append] at c2
  have base : ∀ (q : List Str → Bool) (k : Nat), (([[]] : List (List (List Str))).countP fun g => g.length == k && g.all q) ≤ 0 ^ k := fun q k => by
    cases k with
    | zero => simp
    | succ k => simp
  have A := cnt_groups (fun _ => true) R1 [[]] 0 (base _)
  have B := cnt_groups (fun w => w.length == 2) R1 [[]] 0 (base _)
  have lb := len_by (fun g : List (List Str) => g.length) (R1.foldl addRing [[]]) fun g hg => grp_three ok okh (gr g hg)
  generalize hG : R1.foldl addRing [[]] = G at *
  have A' : ∀ k, (G.countP fun g => g.length == k) ≤ 1956 ^ k := fun k => by
    have h1 := A k
    have h2 : (G.countP fun g => g.length == k && g.all fun _ => true) = G.countP fun g => g.length == k := by
      congr 1
      funext g
      simp
    rw [h2] at h1
    refine Nat.le_trans h1 (Nat.pow_le_pow_left ?_ k)
    have := List.countP_le_length (p := fun _ : List Str => true) (l := R1)
    omega
  have B3 : (G.countP fun g => g.length == 3) ≤ 30 ^ 3 := by
    refine Nat.le_trans (List.countP_mono_left (q := fun g => g.length == 3 && g.all fun w => w.length == 2) fun g hg h3 => ?_) (Nat.le_trans (B 3) (Nat.pow_le_pow_left (by omega) 3))
    have o := gr g hg
    have l3 : g.length = 3 := by simpa using h3
    have fl := grp_flat ok okh o
    rw [Bool.and_eq_true]
    exact ⟨h3, all_two (fun r hr => (ring_two okh (o.mem r hr)).2) (by omega)⟩
  have a0 := A' 0
  have a1 := A' 1
  have a2 := A' 2
  have e0 : (1956 : Nat) ^ 0 = 1 := rfl
  have e1 : (1956 : Nat) ^ 1 = 1956 := by decide
  have e2 : (1956 : Nat) ^ 2 = 3825936 := by decide
  have e3 : (30 : Nat) ^ 3 = 27000 := by decide
  omega
/-- no more rings apart than a lot that meets all has parties -/
theorem grp_le : ∀ {g : List (List Str)} {l : List Str}, g.Pairwise (fun a b => commonS b a = false) → (∀ r ∈ g, commonS l r = true) → g.length ≤ l.length
  | [], _, _, _ => Nat.zero_le _
  | r :: g, l, dj, h => by
    obtain ⟨d1, d2⟩ := List.pairwise_cons.mp dj
    obtain ⟨x, hx, hr⟩ := List.any_eq_true.mp (h r List.mem_cons_self)
    have hr : x ∈ r := of_decide_eq_true hr
    have := grp_le (g := g) (l := l.erase x) d2 fun r' hr' => by
      obtain ⟨y, hy, hyr⟩ := List.any_eq_true.mp (h r' (List.mem_cons_of_mem _ hr'))
      refine List.any_eq_true.mpr ⟨y, (List.mem_erase_of_ne fun e => ?_).mpr hy, hyr⟩
      have hyr : y ∈ r' := of_decide_eq_true hyr
      have := List.any_eq_false.mp (d1 r' hr') y hyr
      exact this (decide_eq_true (by rw [e]; exact hr))
    have pl := List.length_pos_of_mem hx
    rw [List.length_erase_of_mem hx] at this
    rw [List.length_cons]
    omega
/-- the first one of the longest -/
def bestOf (G : List (List (List Str))) : List (List Str) := (G.find? fun g => G.all fun g' => decide (g'.length ≤ g.length)).getD []
theorem longest_in : ∀ {G : List (List (List Str))}, G ≠ [] → ∃ g ∈ G, ∀ g' ∈ G, g'.length ≤ g.length
  | [], h => absurd rfl h
  | [g], _ => ⟨g, List.mem_cons_self, fun g' h => by rw [List.mem_singleton.mp h]; exact Nat.le_refl _⟩
  | g :: g2 :: G, _ => by
    obtain ⟨b, hb, mx⟩ := longest_in (G := g2 :: G) (List.cons_ne_nil _ _)
    by_cases c : b.length ≤ g.length
    · refine ⟨g, List.mem_cons_self, fun g' h => ?_⟩
      rcases List.mem_cons.mp h with rfl | h
      · exact Nat.le_refl _
      · exact Nat.le_trans (mx g' h) c
    · refine ⟨b, List.mem_cons_of_mem _ hb, fun g' h => ?_⟩
      rcases List.mem_cons.mp h with rfl | h
      · omega
      · exact mx g' h
theorem best_ok {G : List (List (List Str))} (h : G ≠ []) : bestOf G ∈ G ∧ ∀ g ∈ G, g.length ≤ (bestOf G).length := by
  obtain ⟨b, hb, mx⟩ := longest_in h
  unfold bestOf
  cases e : G.find? fun g => G.all fun g' => decide (g'.length ≤ g.length) with
  | none => exact absurd (List.all_eq_true.mpr fun g hg => decide_eq_true (mx g hg)) (List.find?_eq_none.mp e b hb)
  | some g =>
    have p := List.find?_some e
    exact ⟨List.mem_of_find?_eq_some e, fun g' h' => of_decide_eq_true (List.all_eq_true.mp p g' h')⟩
theorem best_at {G : List (List (List Str))} {i : Nat} {g : List (List Str)} (h : G[i]? = some g) (mx : ∀ g' ∈ G, g'.length ≤ g.length) (ft : ∀ j g', j < i → G[j]? = some g' → g'.length < g.length) : bestOf G = g := by
  unfold bestOf
  have hl : i < G.length := (List.getElem?_eq_some_iff.mp h).1
  have e : G.find? (fun g => G.all fun g' => decide (g'.length ≤ g.length)) = some g := by
    rw [List.find?_eq_some_iff_append]
    refine ⟨List.all_eq_true.mpr fun g' hg => decide_eq_true (mx g' hg), G.take i, G.drop (i + 1), ?_, fun a ha => ?_⟩
    · have hg : G[i] = g := (List.getElem?_eq_some_iff.mp h).2
      rw [← hg, ← List.drop_eq_getElem_cons hl, List.take_append_drop]
    · obtain ⟨j, hj, e⟩ := List.mem_take_iff_getElem.mp ha
      have lj : j < i := by omega
      have := ft j a lj (by rw [← e]; exact List.getElem?_eq_getElem _)
      rw [Bool.not_eq_true', List.all_eq_false]
      exact ⟨g, List.mem_of_getElem? h, by simpa using this⟩
  rw [e]
  rfl
section
variable {K : PySem.W.Frag} {C : Addr} {zs : List Z} {P : Z → Prop}
def S_apart (C : Addr) : Spc := fun zs P => ∃ ps hs, zs = [.d (webD C ps hs)] ∧ OkPs ps ∧ OkHs ps hs ∧ P (.d (grpD (bestOf (groupsOf (ringsOf ps hs)))))
theorem S_apart.of {ps : List Str} {hs : List (Str × Str)} (ok : OkPs ps) (okh : OkHs ps hs) (h : ∀ g ∈ groupsOf (ringsOf ps hs), (∀ g' ∈ groupsOf (ringsOf ps hs), g'.length ≤ g.length) → P (.d (grpD g))) : S_apart C [.d (webD C ps hs)] P :=
  have o := best_ok (groups_ne (ringsOf ps hs) [[]] (by simp))
  ⟨ps, hs, rfl, ok, okh, h _ o.1 o.2⟩
theorem r_apart (h : S_apart C zs P) : m_apart K C (S_check_web C) S_has_common (S_rings C) { nx := fun _ => P (.d .non), rt := P } (startG N_apart zs) := by
  obtain ⟨ps, hs, rfl, ok, okh, p⟩ := h
  have wo := rings_ok ok okh
  have gr : ∀ R1 rest, R1 ++ rest = ringsOf ps hs → ∀ g ∈ R1.foldl addRing [[]], Grp (ringsOf ps hs) g := fun R1 rest e => mem_groups (R := ringsOf ps hs) R1 [[]] (fun g hg => by rw [List.mem_singleton.mp hg]; exact ⟨(fun r h => nomatch h), List.Pairwise.nil⟩) fun r hr => by rw [← e]; exact List.mem_append_left _ hr
  dsimp only [m_apart, mRet, mSeq, mIf, mSet, mSetO, mCB, mACons, mANil, mOp, mC, mCall, mDrop, mTst, mTru, mNot, mAnd, mOr, mAndV, mOrV, mNotV, mIfE, mLst, mTup, mLCons, mLNil, mDat, mNext, mChain, mIsi, mIsi2, mLc, mLc2, mWalk, mWalkD, mWalkS, mRng1, mRng2, mgN, mgT, mgCons, mgNil, mAsg, mFld, mProp, mMeth, mLenSet, mSortLR, mDGet, mDisp, mApp, mExt, mFor, mRetO, mPar2, mSto, mCallR, mFldS, mNever, mYes, mLenScr, mAs, mDrI, mDrS, mCells, mWalkScr, mDrPop, mAppPop, mSl, mOSome, mONone, mRev, mJoin, mFrz, mCallO, mSetCD, mDGetO, mDPutO, mFrzD, mAsgPop, mCallF, mSetF, mPar2F, mAppF, mAppF1, mBest, mIsi2V, mRng3, mReprL, mIndex, mAppT]
  refine var_at rfl rfl ⟨ps, hs, rfl, ?_⟩
  refine ⟨(by show 0 ≤ sizeLine; decide), _, rfl, (by show 1 ≤ sizeLine; decide), _, rfl, ?_⟩
  refine var_at rfl rfl ⟨ps, hs, rfl, ok, okh, _, rfl, false, _, rfl, ?_⟩
  refine for_list tupS (fun rest ρ => ∃ R1 x2 x3, R1 ++ rest = ringsOf ps hs ∧ ρ = [some (.d (webD C ps hs)), some (.d (.lst ((R1.foldl addRing [[]]).map grpD))), x2, x3, none, none]) ?_ ?_ (ringsOf ps hs) _ ⟨[], none, none, rfl, rfl⟩
  · rintro r rest ρ Nx ⟨R1, x2, x3, e1, rfl⟩ nx
    have hr : r ∈ ringsOf ps hs := by rw [← e1]; simp
    have onr := wo.nm r hr
    have l6 := (wo.six r hr).2
    have g1 := gr R1 _ e1
    have gl := groups_len ok okh e1
    have e2 : (R1 ++ [r]) ++ rest = ringsOf ps hs := by rw [List.append_assoc]; exact e1
    have gl2 := groups_len ok okh e2
    have ef : (R1 ++ [r]).foldl addRing [[]] = addRing (R1.foldl addRing [[]]) r := by rw [List.foldl_append]; rfl
    rw [ef] at gl2
    generalize hG : R1.foldl addRing [[]] = G at *
    have fl : (freeOf r G).length ≤ G.length := List.length_filter_le _ _
    have big : ∀ {n : Nat}, n ≤ 4000000 → n ≤ sizeLine := fun h => Nat.le_trans h (by decide)
    dsimp only [mRet, mSeq, mIf, mSet, mSetO, mCB, mACons, mANil, mOp, mC, mCall, mDrop, mTst, mTru, mNot, mAnd, mOr, mAndV, mOrV, mNotV, mIfE, mLst, mTup, mLCons, mLNil, mDat, mNext, mChain, mIsi, mIsi2, mLc, mLc2, mWalk, mWalkD, mWalkS, mRng1, mRng2, mgN, mgT, mgCons, mgNil, mAsg, mFld, mProp, mMeth, mLenSet, mSortLR, mDGet, mDisp, mApp, mExt, mFor, mRetO, mPar2, mSto, mCallR, mFldS, mNever, mYes, mLenScr, mAs, mDrI, mDrS, mCells, mWalkScr, mDrPop, mAppPop, mSl, mOSome, mONone, mRev, mJoin, mFrz, mCallO, mSetCD, mDGetO, mDPutO, mFrzD, mAsgPop, mCallF, mSetF, mPar2F, mAppF, mAppF1, mBest, mIsi2V, mRng3, mReprL, mIndex, mAppT]
    refine var_at rfl rfl ⟨false, _, rfl, ?_⟩
    refine lc_list grpD (fun g => !(g.any fun o => commonS r o)) grpD id G [] (fun g hg Pt Pf k => ?_) (big (by rw [List.length_nil]; omega)) ?_
    · dsimp only [mRet, mSeq, mIf, mSet, mSetO, mCB, mACons, mANil, mOp, mC, mCall, mDrop, mTst, mTru, mNot, mAnd, mOr, mAndV, mOrV, mNotV, mIfE, mLst, mTup, mLCons, mLNil, mDat, mNext, mChain, mIsi, mIsi2, mLc, mLc2, mWalk, mWalkD, mWalkS, mRng1, mRng2, mgN, mgT, mgCons, mgNil, mAsg, mFld, mProp, mMeth, mLenSet, mSortLR, mDGet, mDisp, mApp, mExt, mFor, mRetO, mPar2, mSto, mCallR, mFldS, mNever, mYes, mLenScr, mAs, mDrI, mDrS, mCells, mWalkScr, mDrPop, mAppPop, mSl, mOSome, mONone, mRev, mJoin, mFrz, mCallO, mSetCD, mDGetO, mDPutO, mFrzD, mAsgPop, mCallF, mSetF, mPar2F, mAppF, mAppF1, mBest, mIsi2V, mRng3, mReprL, mIndex, mAppT]
      have o := g1 g hg
      have l3 := grp_three ok okh o
      refine var_at rfl rfl ⟨false, _, rfl, ?_⟩
      refine lc_list tupS (fun _ => true) D.bl (fun o => commonS r o) g [] (fun w hw Pt Pf k2 => ?_) (small (by rw [List.length_nil]; omega)) ?_
      · exact var_at rfl rfl (var_at rfl rfl ⟨r, w, rfl, onr, wo.nm w (o.mem w hw), l6, _, rfl, k2⟩)
      refine ⟨_, _, rfl, rfl, _, rfl, ?_⟩
      rw [filter_yes, any_id]
      by_cases c : (!(g.any fun o => commonS r o)) = true
      · rw [if_pos c] at k ⊢
        exact var_at rfl rfl ⟨_, rfl, k⟩
      · rw [if_neg c] at k ⊢
        exact k
    rw [List.map_id, List.nil_append]
    refine ⟨_, rfl, ?_⟩
    refine var_at rfl rfl (var_at rfl rfl ⟨false, _, rfl, ?_⟩)
    refine lc_list grpD (fun _ => true) grpD (fun g => g ++ [r]) (freeOf r G) [] (fun g hg Pt Pf k => ?_) (big (by rw [List.length_nil]; omega)) ?_
    · dsimp only [mRet, mSeq, mIf, mSet, mSetO, mCB, mACons, mANil, mOp, mC, mCall, mDrop, mTst, mTru, mNot, mAnd, mOr, mAndV, mOrV, mNotV, mIfE, mLst, mTup, mLCons, mLNil, mDat, mNext, mChain, mIsi, mIsi2, mLc, mLc2, mWalk, mWalkD, mWalkS, mRng1, mRng2, mgN, mgT, mgCons, mgNil, mAsg, mFld, mProp, mMeth, mLenSet, mSortLR, mDGet, mDisp, mApp, mExt, mFor, mRetO, mPar2, mSto, mCallR, mFldS, mNever, mYes, mLenScr, mAs, mDrI, mDrS, mCells, mWalkScr, mDrPop, mAppPop, mSl, mOSome, mONone, mRev, mJoin, mFrz, mCallO, mSetCD, mDGetO, mDPutO, mFrzD, mAsgPop, mCallF, mSetF, mPar2F, mAppF, mAppF1, mBest, mIsi2V, mRng3, mReprL, mIndex, mAppT]
      have l3 := grp_three ok okh (g1 g (List.mem_filter.mp hg).1)
      refine var_at rfl rfl (var_at rfl rfl ⟨_, rfl, (by show 1 ≤ sizeLine; decide), ?_⟩)
      refine ⟨_, _, rfl, rfl, small (by rw [List.length_map]; simp; omega), _, rfl, ?_⟩
      have : grpD (g ++ [r]) = D.lst (g.map tupS ++ [tupS r]) := by unfold grpD; rw [List.map_append]; rfl
      rw [this] at k
      exact k
    rw [filter_yes, List.nil_append]
    rw [addRing, List.length_append, List.length_map] at gl2
    have ef2 : (R1 ++ [r]).foldl addRing [[]] = G ++ (freeOf r G).map fun g => g ++ [r] := ef
    refine ⟨_, _, rfl, rfl, big (by rw [List.length_map, List.length_map, List.length_map]; exact gl2), _, rfl, nx _ ⟨R1 ++ [r], some (.d (tupS r)), some (.d (.lst ((freeOf r G).map grpD))), e2, ?_⟩⟩
    rw [ef2, List.map_append (l₁ := G)]
    rfl
  · rintro ρ ⟨R1, x2, x3, e1, rfl⟩
    rw [List.append_nil] at e1
    subst e1
    refine var_at rfl rfl ⟨false, (groupsOf (ringsOf ps hs)).map fun g => g.map tupS, ?_, ?_, fun i xs hxs mx ft => ?_⟩
    · rw [List.map_map]; rfl
    · intro e
      exact groups_ne (ringsOf ps hs) [[]] (by simp) (List.map_eq_nil_iff.mp e)
    · rw [List.getElem?_map] at hxs
      cases e : (groupsOf (ringsOf ps hs))[i]? with
      | none => rw [e] at hxs; cases hxs
      | some g =>
        rw [e] at hxs
        cases hxs
        rw [best_at e (fun g' hg' => ?_) fun j g' hj hg' => ?_] at p
        · exact p
        · have := mx _ (List.mem_map.mpr ⟨g', hg', rfl⟩)
          rwa [List.length_map, List.length_map] at this
        · have := ft j (g'.map tupS) hj (by rw [List.getElem?_map, hg']; rfl)
          rwa [List.length_map, List.length_map] at this
end
end GL
end
section
set_option linter.all false
set_option maxRecDepth 100000
set_option maxHeartbeats 4000000
namespace GL
open PySem L2 PySem.W PyProof.Rows
variable [TabCx]
theorem erase_perm {α : Type} : ∀ (l : List α) (k : Nat) (h : k < l.length), (l[k] :: l.eraseIdx k).Perm l
  | a :: l, 0, _ => .refl _
  | a :: l, k + 1, h => by
    have h' : k < l.length := by simpa using h
    show (l[k] :: a :: l.eraseIdx k).Perm (a :: l)
    exact (List.Perm.swap a l[k] _).trans ((erase_perm l k h').cons a)
theorem sto_yes {A B : Prop} (h : A) : if true = true then A else B := h
theorem ok_int (i : Int) : (D.int i).ok := ⟨by simp [D.plain], by simp [D.py, SeqAt.shaped, PyData.canLay0, PyData.depth]⟩
section
variable {K : PySem.W.Frag} {C : Addr} {zs : List Z} {P : Z → Prop}
def S__law_blend : Spc := fun zs P => zs = [.drw] ∧ ∀ r : Int, P (.d (.int r))
theorem r__law_take (h : S__law_take zs P) : m__law_take K C S__law_blend { nx := fun _ => P (.d .non), rt := P } (startG N__law_take zs) := by
  obtain ⟨n, rfl, n0, n1, p⟩ := h
  have rest : (mSeq (mSet 2 (mOp fMod (mCB fInt1 (mACons (mDrI 0) mANil)) (mVar 1))) (mSeq (mDrS 0 (mOp fFdiv (mDrI 0) (mVar 1))) (mRet (mVar 2)))) { nx := fun _ => P (.d .non), rt := P } [some .drw, some (.d (.int n)), none] := by
    dsimp only [mRet, mSeq, mIf, mSet, mSetO, mCB, mACons, mANil, mOp, mC, mCall, mDrop, mTst, mTru, mNot, mAnd, mOr, mAndV, mOrV, mNotV, mIfE, mLst, mTup, mLCons, mLNil, mDat, mNext, mChain, mIsi, mIsi2, mLc, mLc2, mWalk, mWalkD, mWalkS, mRng1, mRng2, mgN, mgT, mgCons, mgNil, mAsg, mFld, mProp, mMeth, mLenSet, mSortLR, mDGet, mDisp, mApp, mExt, mFor, mRetO, mPar2, mSto, mCallR, mFldS, mNever, mYes, mLenScr, mAs, mDrI, mDrS, mCells, mWalkScr, mDrPop, mAppPop, mSl, mOSome, mONone, mRev, mJoin, mFrz, mCallO, mSetCD, mDGetO, mDPutO, mFrzD, mAsgPop, mCallF, mSetF, mPar2F, mAppF, mAppF1, mBest, mIsi2V, mRng3, mReprL, mIndex, mAppT]
    refine ⟨rfl, fun r => ⟨r, rfl, var_at rfl rfl ⟨_, _, rfl, rfl, n0, _, rfl, rfl, rfl, fun q => var_at rfl rfl ⟨_, _, rfl, rfl, ⟨n0, by omega⟩, _, rfl, var_at rfl rfl ?_⟩⟩⟩⟩
    exact p _ (Int.emod_nonneg _ (by omega)) (Int.emod_lt_of_pos _ n0)
  refine ⟨rfl, rfl, fun r => ⟨_, _, rfl, rfl, ok_int r, ok_int 0, _, rfl, ?_⟩⟩
  generalize PyData.eqv (D.int r).py (D.int 0).py = b
  cases b with
  | true => exact ⟨rfl, var_at rfl rfl ⟨rfl, fun r => ⟨r, rfl, rest⟩⟩⟩
  | false => exact rest
theorem pow5 {i j : Int} (h : 0 < j) (hj : j ≤ 4294967296) : CPow (i % j) 5 := by
  have h1 := Int.emod_nonneg i (show j ≠ 0 by omega)
  have h2 := Int.emod_lt_of_pos i h
  refine ⟨by decide, by decide, ?_⟩
  have : (2 : Nat) ^ 64 = 18446744073709551616 := by decide
  omega
theorem r__law_blend (h : S__law_blend zs P) : m__law_blend K C { nx := fun _ => P (.d .non), rt := P } (startG N__law_blend zs) := by
  obtain ⟨rfl, p⟩ := h
  dsimp only [m__law_blend, mRet, mSeq, mIf, mSet, mSetO, mCB, mACons, mANil, mOp, mC, mCall, mDrop, mTst, mTru, mNot, mAnd, mOr, mAndV, mOrV, mNotV, mIfE, mLst, mTup, mLCons, mLNil, mDat, mNext, mChain, mIsi, mIsi2, mLc, mLc2, mWalk, mWalkD, mWalkS, mRng1, mRng2, mgN, mgT, mgCons, mgNil, mAsg, mFld, mProp, mMeth, mLenSet, mSortLR, mDGet, mDisp, mApp, mExt, mFor, mRetO, mPar2, mSto, mCallR, mFldS, mNever, mYes, mLenScr, mAs, mDrI, mDrS, mCells, mWalkScr, mDrPop, mAppPop, mSl, mOSome, mONone, mRev, mJoin, mFrz, mCallO, mSetCD, mDGetO, mDPutO, mFrzD, mAsgPop, mCallF, mSetF, mPar2F, mAppF, mAppF1, mBest, mIsi2V, mRng3, mReprL, mIndex, mAppT]
  refine ⟨rfl, fun turn => ⟨_, rfl, rfl, var_at rfl rfl ⟨_, rfl, _, rfl, ?_⟩⟩⟩
  refine ⟨_, rfl, _, rfl, _, rfl, _, rfl, (by show 4 ≤ sizeLine; decide), _, rfl, false, _, rfl, ?_⟩
  have cm : ∀ i : Int, CMul i 69621 := fun i => .inr (by decide)
  have cm2 : ∀ i : Int, CMul i 48271 := fun i => .inr (by decide)
  have cm3 : ∀ i : Int, CMul i 2147483647 := fun i => .inr (by decide)
  refine for_list (fun q : Int => D.int q) (fun rest ρ => (∀ q ∈ rest, 0 < q ∧ q ≤ 4294967296) ∧ ∃ (t a : Int) (x3 x4 x5 : Option G), ρ = [some .drw, some (.d (.int t)), some (.d (.int a)), x3, x4, x5]) ?_ ?_ [2147483629, 2147483587, 2147483579, 2147483563] _ ⟨by decide, _, _, _, _, _, rfl⟩
  · rintro q rest ρ Nx ⟨hq, t, a, x3, x4, x5, rfl⟩ nx
    obtain ⟨q0, q1⟩ := hq q List.mem_cons_self
    dsimp only [mRet, mSeq, mIf, mSet, mSetO, mCB, mACons, mANil, mOp, mC, mCall, mDrop, mTst, mTru, mNot, mAnd, mOr, mAndV, mOrV, mNotV, mIfE, mLst, mTup, mLCons, mLNil, mDat, mNext, mChain, mIsi, mIsi2, mLc, mLc2, mWalk, mWalkD, mWalkS, mRng1, mRng2, mgN, mgT, mgCons, mgNil, mAsg, mFld, mProp, mMeth, mLenSet, mSortLR, mDGet, mDisp, mApp, mExt, mFor, mRetO, mPar2, mSto, mCallR, mFldS, mNever, mYes, mLenScr, mAs, mDrI, mDrS, mCells, mWalkScr, mDrPop, mAppPop, mSl, mOSome, mONone, mRev, mJoin, mFrz, mCallO, mSetCD, mDGetO, mDPutO, mFrzD, mAsgPop, mCallF, mSetF, mPar2F, mAppF, mAppF1, mBest, mIsi2V, mRng3, mReprL, mIndex, mAppT]
    refine var_at rfl rfl ⟨_, _, rfl, rfl, cm _, var_at rfl rfl ⟨_, _, rfl, rfl, by constructor <;> decide, _, rfl, var_at rfl rfl ⟨_, _, rfl, rfl, q0, _, rfl, rfl, fun cs => ?_⟩⟩⟩
    refine for_list (fun c : Int => D.int c) (fun rest2 ρ => ∃ (b : Int) (x5 : Option G), ρ = [some .drw, some (.d (.int t)), some (.d (.int a)), some (.d (.int q)), some (.d (.int (b % q))), x5]) ?_ ?_ cs _ ⟨_, _, rfl⟩
    · rintro c rest2 ρ Nx2 ⟨b, x5, rfl⟩ nx2
      dsimp only [mRet, mSeq, mIf, mSet, mSetO, mCB, mACons, mANil, mOp, mC, mCall, mDrop, mTst, mTru, mNot, mAnd, mOr, mAndV, mOrV, mNotV, mIfE, mLst, mTup, mLCons, mLNil, mDat, mNext, mChain, mIsi, mIsi2, mLc, mLc2, mWalk, mWalkD, mWalkS, mRng1, mRng2, mgN, mgT, mgCons, mgNil, mAsg, mFld, mProp, mMeth, mLenSet, mSortLR, mDGet, mDisp, mApp, mExt, mFor, mRetO, mPar2, mSto, mCallR, mFldS, mNever, mYes, mLenScr, mAs, mDrI, mDrS, mCells, mWalkScr, mDrPop, mAppPop, mSl, mOSome, mONone, mRev, mJoin, mFrz, mCallO, mSetCD, mDGetO, mDPutO, mFrzD, mAsgPop, mCallF, mSetF, mPar2F, mAppF, mAppF1, mBest, mIsi2V, mRng3, mReprL, mIndex, mAppT]
      refine var_at rfl rfl ⟨_, _, rfl, rfl, cm2 _, var_at rfl rfl ⟨_, rfl, var_at rfl rfl ⟨_, _, rfl, rfl, q0, _, rfl, nx2 _ ⟨_, _, rfl⟩⟩⟩⟩
    · rintro ρ ⟨b, x5, rfl⟩
      dsimp only [mRet, mSeq, mIf, mSet, mSetO, mCB, mACons, mANil, mOp, mC, mCall, mDrop, mTst, mTru, mNot, mAnd, mOr, mAndV, mOrV, mNotV, mIfE, mLst, mTup, mLCons, mLNil, mDat, mNext, mChain, mIsi, mIsi2, mLc, mLc2, mWalk, mWalkD, mWalkS, mRng1, mRng2, mgN, mgT, mgCons, mgNil, mAsg, mFld, mProp, mMeth, mLenSet, mSortLR, mDGet, mDisp, mApp, mExt, mFor, mRetO, mPar2, mSto, mCallR, mFldS, mNever, mYes, mLenScr, mAs, mDrI, mDrS, mCells, mWalkScr, mDrPop, mAppPop, mSl, mOSome, mONone, mRev, mJoin, mFrz, mCallO, mSetCD, mDGetO, mDPutO, mFrzD, mAsgPop, mCallF, mSetF, mPar2F, mAppF, mAppF1, mBest, mIsi2V, mRng3, mReprL, mIndex, mAppT]
      refine var_at rfl rfl ⟨_, _, rfl, rfl, cm3 _, var_at rfl rfl ⟨_, _, rfl, rfl, pow5 q0 q1, _, rfl, var_at rfl rfl ⟨_, _, rfl, rfl, q0, _, rfl, nx _ ⟨fun r hr => hq r (List.mem_cons_of_mem _ hr), _, _, _, _, _, rfl⟩⟩⟩⟩
  · rintro ρ ⟨_, t, a, x3, x4, x5, rfl⟩
    exact var_at rfl rfl (p _)
theorem r__law_mixed (h : S__law_mixed zs P) : m__law_mixed K C S__law_take { nx := fun _ => P (.d .non), rt := P } (startG N__law_mixed zs) := by
  obtain ⟨z, xs, rfl, hz, hl, nice, p⟩ := h
  have sq : ∃ t, z.seq = some (t, xs) := by
    rcases hz with s | rfl
    · exact s.seq
    · exact ⟨_, rfl⟩
  obtain ⟨g, eg, gz⟩ : ∃ g, z.toG = some g ∧ g.z = some z := by
    rcases hz with s | rfl
    · exact s.var
    · exact ⟨_, rfl, rfl⟩
  obtain ⟨t, et⟩ := sq
  dsimp only [m__law_mixed, mRet, mSeq, mIf, mSet, mSetO, mCB, mACons, mANil, mOp, mC, mCall, mDrop, mTst, mTru, mNot, mAnd, mOr, mAndV, mOrV, mNotV, mIfE, mLst, mTup, mLCons, mLNil, mDat, mNext, mChain, mIsi, mIsi2, mLc, mLc2, mWalk, mWalkD, mWalkS, mRng1, mRng2, mgN, mgT, mgCons, mgNil, mAsg, mFld, mProp, mMeth, mLenSet, mSortLR, mDGet, mDisp, mApp, mExt, mFor, mRetO, mPar2, mSto, mCallR, mFldS, mNever, mYes, mLenScr, mAs, mDrI, mDrS, mCells, mWalkScr, mDrPop, mAppPop, mSl, mOSome, mONone, mRev, mJoin, mFrz, mCallO, mSetCD, mDGetO, mDPutO, mFrzD, mAsgPop, mCallF, mSetF, mPar2F, mAppF, mAppF1, mBest, mIsi2V, mRng3, mReprL, mIndex, mAppT]
  refine ⟨g, z, (by show some z.toG = _; rw [eg]), gz, z, t, xs, rfl, et, ?_⟩
  refine sto_yes ⟨_, rfl, (by show 0 ≤ sizeLine; decide), ?_⟩
  refine sto_yes ⟨_, rfl, xs.length + 1, ?_⟩
  refine wh_of (fun n ρ => ∃ left found : List D, left.length + 1 = n ∧ (found ++ left).Perm xs ∧ ρ = [some .drw, z.toG, some (.own left), some (.own found)]) ?_ ?_ (xs.length + 1) _ ⟨xs, [], rfl, .refl _, rfl⟩
  · rintro ρ ⟨left, found, h, _⟩
    omega
  · rintro n ρ Nx ⟨left, found, hn, pm, rfl⟩ nx
    have len := pm.length_eq
    rw [List.length_append] at len
    have nl : ∀ x ∈ left, Nice 3 x := fun x hx => nice x (pm.mem_iff.mp (List.mem_append_right _ hx))
    refine var_at rfl rfl ⟨(by show 0 ≤ sizeLine; decide), ?_⟩
    refine fEq_of rfl rfl (Nice.lst nl) (Nice.lst (n := 0) fun x hx => nomatch hx) left.isEmpty ?_ (p := ⟨_, rfl, ?_⟩)
    · cases left <;> simp [D.py, D.pys, PyData.eqv, PyData.eqvAll]
    · cases left with
      | nil =>
        rw [List.append_nil] at pm
        rw [if_neg (by decide)]
        exact ⟨_, rfl, p _ pm⟩
      | cons a l =>
        rw [if_pos (by rfl)]
        rw [List.length_cons] at hn len
        dsimp only [mRet, mSeq, mIf, mSet, mSetO, mCB, mACons, mANil, mOp, mC, mCall, mDrop, mTst, mTru, mNot, mAnd, mOr, mAndV, mOrV, mNotV, mIfE, mLst, mTup, mLCons, mLNil, mDat, mNext, mChain, mIsi, mIsi2, mLc, mLc2, mWalk, mWalkD, mWalkS, mRng1, mRng2, mgN, mgT, mgCons, mgNil, mAsg, mFld, mProp, mMeth, mLenSet, mSortLR, mDGet, mDisp, mApp, mExt, mFor, mRetO, mPar2, mSto, mCallR, mFldS, mNever, mYes, mLenScr, mAs, mDrI, mDrS, mCells, mWalkScr, mDrPop, mAppPop, mSl, mOSome, mONone, mRev, mJoin, mFrz, mCallO, mSetCD, mDGetO, mDPutO, mFrzD, mAsgPop, mCallF, mSetF, mPar2F, mAppF, mAppF1, mBest, mIsi2V, mRng3, mReprL, mIndex, mAppT]
        refine ⟨_, _, rfl, rfl, by decide, var_at rfl rfl (var_at rfl rfl (len_seq ⟨_, rfl⟩ ⟨_, rfl, by rw [List.length_cons]; omega, by rw [List.length_cons]; omega, fun r r0 r1 => ?_⟩))⟩
        obtain ⟨k, rfl⟩ := Int.eq_ofNat_of_zero_le r0
        have hk : k < (a :: l).length := by omega
        refine ⟨k, (a :: l)[k], rfl, by rw [List.length_cons] at hk; omega, List.getElem?_eq_getElem hk, Nat.lt_of_lt_of_le (by omega : found.length < 1000000) (by decide), nx _ ⟨(a :: l).eraseIdx k, found ++ [(a :: l)[k]], ?_, ?_, rfl⟩⟩
        · rw [List.length_eraseIdx_of_lt hk, List.length_cons]; omega
        · rw [List.append_assoc]
          refine List.Perm.trans (List.Perm.append_left _ ?_) pm
          exact erase_perm _ k hk
end
end GL
end
section
set_option linter.all false
set_option maxRecDepth 100000
set_option maxHeartbeats 4000000
namespace GL
open PySem L2 PySem.Calls PySem.W PyProof.Rows
variable [TabCx]
theorem DvAll.ints_of {H : Hp} : ∀ {vs : List V} {ns : List Int}, DvAll H vs (ns.map D.int) → vs = ns.map V.int
  | _, [], h => by cases h; rfl
  | _, n :: r, h => by
    cases h with
    | cons a t => cases a; rw [DvAll.ints_of t]; rfl
section
variable {P : Program} {w : World} {K : PySem.W.Frag} {mg : Str → Option Value} {base : Heap} {C : Addr}
/-- what the draws' beginning promises -/
def GBeg (K : PySem.W.Frag) : Sp := fun vs H Q _ => ∃ (H0 : Hp) (p : Addr) (ns : List Int), vs = [.ref p] ∧ Bas none H0 H ∧ (∀ H', Same H0 H' → SqL K H' p (ns.map V.int)) ∧ ns.length ≤ 1000000 ∧ ∀ (x : Dr) (H0' H' : Hp), Bas (some x) H0' H' → Same H0 H0' → Q (.ref x.a) H'
theorem r__law_begin {ns : List Int} (hl : ns.length ≤ 1000000) : m__law_begin K C { nx := fun ρ => ∃ gs : List Int, ρ = [some (.scr ns), some (.own (gs.map D.int)), none], rt := fun _ => False } [some (.scr ns), none, none] := by
  dsimp only [m__law_begin, mRet, mSeq, mIf, mSet, mSetO, mCB, mACons, mANil, mOp, mC, mCall, mDrop, mTst, mTru, mNot, mAnd, mOr, mAndV, mOrV, mNotV, mIfE, mLst, mTup, mLCons, mLNil, mDat, mNext, mChain, mIsi, mIsi2, mLc, mLc2, mWalk, mWalkD, mWalkS, mRng1, mRng2, mgN, mgT, mgCons, mgNil, mAsg, mFld, mProp, mMeth, mLenSet, mSortLR, mDGet, mDisp, mApp, mExt, mFor, mRetO, mPar2, mSto, mCallR, mFldS, mNever, mYes, mLenScr, mAs, mDrI, mDrS, mCells, mWalkScr, mDrPop, mAppPop, mSl, mOSome, mONone, mRev, mJoin, mFrz, mCallO, mSetCD, mDGetO, mDPutO, mFrzD, mAsgPop, mCallF, mSetF, mPar2F, mAppF, mAppF1, mBest, mIsi2V, mRng3, mReprL, mIndex, mAppT]
  have cp : CPow 10 18 := ⟨by decide, by decide, by decide⟩
  refine ⟨ns, rfl, ?_⟩
  refine lc_list (fun c : Int => D.int c) (fun c => decide ((10 : Int) ^ (18 : Int).toNat ≤ if c < 0 then -c else c)) (fun c : Int => D.int c) (fun c => (if c < 0 then -c else c) - 10 ^ (18 : Int).toNat) ns [] (fun c hc Pt Pf k => ?_) (small (by rw [List.length_nil]; omega)) ?_
  · dsimp only [mRet, mSeq, mIf, mSet, mSetO, mCB, mACons, mANil, mOp, mC, mCall, mDrop, mTst, mTru, mNot, mAnd, mOr, mAndV, mOrV, mNotV, mIfE, mLst, mTup, mLCons, mLNil, mDat, mNext, mChain, mIsi, mIsi2, mLc, mLc2, mWalk, mWalkD, mWalkS, mRng1, mRng2, mgN, mgT, mgCons, mgNil, mAsg, mFld, mProp, mMeth, mLenSet, mSortLR, mDGet, mDisp, mApp, mExt, mFor, mRetO, mPar2, mSto, mCallR, mFldS, mNever, mYes, mLenScr, mAs, mDrI, mDrS, mCells, mWalkScr, mDrPop, mAppPop, mSl, mOSome, mONone, mRev, mJoin, mFrz, mCallO, mSetCD, mDGetO, mDPutO, mFrzD, mAsgPop, mCallF, mSetF, mPar2F, mAppF, mAppF1, mBest, mIsi2V, mRng3, mReprL, mIndex, mAppT]
    refine var_at rfl rfl ⟨c, rfl, _, _, rfl, rfl, cp, _, _, rfl, rfl, _, rfl, ?_⟩
    by_cases h : (10 : Int) ^ (18 : Int).toNat ≤ if c < 0 then -c else c
    · rw [if_pos (decide_eq_true h)] at k ⊢
      exact var_at rfl rfl ⟨c, rfl, _, _, rfl, rfl, cp, _, _, rfl, rfl, _, rfl, k⟩
    · rw [if_neg (by simpa using h)] at k ⊢
      exact k
  · exact ⟨_, rfl, _, rfl⟩
theorem r__law_cells {ns : List Int} {x : Option G} (hl : ns.length ≤ 1000000) {P : Z → Prop} (p : ∀ cs : List Int, P (.own (cs.map D.int))) : m__law_cells [some (.scr ns), x, none] P := by
  dsimp only [m__law_cells, mRet, mSeq, mIf, mSet, mSetO, mCB, mACons, mANil, mOp, mC, mCall, mDrop, mTst, mTru, mNot, mAnd, mOr, mAndV, mOrV, mNotV, mIfE, mLst, mTup, mLCons, mLNil, mDat, mNext, mChain, mIsi, mIsi2, mLc, mLc2, mWalk, mWalkD, mWalkS, mRng1, mRng2, mgN, mgT, mgCons, mgNil, mAsg, mFld, mProp, mMeth, mLenSet, mSortLR, mDGet, mDisp, mApp, mExt, mFor, mRetO, mPar2, mSto, mCallR, mFldS, mNever, mYes, mLenScr, mAs, mDrI, mDrS, mCells, mWalkScr, mDrPop, mAppPop, mSl, mOSome, mONone, mRev, mJoin, mFrz, mCallO, mSetCD, mDGetO, mDPutO, mFrzD, mAsgPop, mCallF, mSetF, mPar2F, mAppF, mAppF1, mBest, mIsi2V, mRng3, mReprL, mIndex, mAppT]
  refine ⟨ns, rfl, ?_⟩
  refine lc_list (fun c : Int => D.int c) (fun _ => true) (fun c : Int => D.int c) (fun c => if c < 0 then -c else c) ns [] (fun c hc Pt Pf k => ?_) (small (by rw [List.length_nil]; omega)) ?_
  · dsimp only [mRet, mSeq, mIf, mSet, mSetO, mCB, mACons, mANil, mOp, mC, mCall, mDrop, mTst, mTru, mNot, mAnd, mOr, mAndV, mOrV, mNotV, mIfE, mLst, mTup, mLCons, mLNil, mDat, mNext, mChain, mIsi, mIsi2, mLc, mLc2, mWalk, mWalkD, mWalkS, mRng1, mRng2, mgN, mgT, mgCons, mgNil, mAsg, mFld, mProp, mMeth, mLenSet, mSortLR, mDGet, mDisp, mApp, mExt, mFor, mRetO, mPar2, mSto, mCallR, mFldS, mNever, mYes, mLenScr, mAs, mDrI, mDrS, mCells, mWalkScr, mDrPop, mAppPop, mSl, mOSome, mONone, mRev, mJoin, mFrz, mCallO, mSetCD, mDGetO, mDPutO, mFrzD, mAsgPop, mCallF, mSetF, mPar2F, mAppF, mAppF1, mBest, mIsi2V, mRng3, mReprL, mIndex, mAppT]
    exact var_at rfl rfl ⟨c, rfl, _, rfl, k⟩
  · exact p _
theorem begin_ok {x qual : Str} {f : Addr} {fd : FuncData} (F : Fun K x qual st__law_begin f fd) (T : Txt K mg C) : FnOk P w K mg base CX0 2 f fd ["_law_script"] (GBeg K) := by
  refine F.ok sc__law_begin (fun vs H Q E ⟨H0, p, ns, ev, _⟩ => by subst ev; rfl) fun cdv A outer s H vs Q E hr ⟨H0, p, ns, ev, B, sq, hl, k⟩ => ?_
  subst ev
  obtain ⟨t, ht⟩ := d__law_begin (P := P) (w := w) (base := base) (outer := outer) (H := H) (E := E) T hr
  obtain ⟨p2, s2⟩ := q__law_begin (P := P) (w := w) (base := base) (outer := outer) (H := H) (E := E) T hr
  have s3 : SndE K (t__law_cells K) m__law_cells := s2
  have eb : defBody st__law_begin = [(defBody st__law_begin).headD (.Pass ⟨0, 0, 0, 0⟩), (defBody st__law_begin).getD 1 (.Pass ⟨0, 0, 0, 0⟩)] := rfl
  refine ⟨_, by rw [eb]; exact pss_cons ht.ps (pss_one p2), ?_⟩
  have R : Rs K none H H0 H (L2.start N__law_begin [.ref p]) [some (.scr ns), none, none] := by
    refine ⟨rfl, fun i g e => ?_, fun i j q xs ys _ e => ?_, fun a => a.elim, fun _ a => a.elim⟩
    · match i with
      | 0 => cases e; exact ⟨_, rfl, .scr sq⟩
      | 1 => cases e
      | 2 => cases e
      | i + 3 => simp at e
    · match i with
      | 0 => cases e
      | 1 => cases e
      | 2 => cases e
      | i + 3 => simp at e
  refine ht.sn none H0 H _ _ H0 H { nx := fun ρ => ∃ gs : List Int, ρ = [some (.scr ns), some (.own (gs.map D.int)), none], rt := fun _ => False } _ B .refl R ⟨?_, fun _ _ _ _ _ _ _ q => q.elim, fun _ _ _ _ _ _ _ q => q.elim, fun _ _ _ _ _ _ _ q => q.elim, fun _ => B.ex⟩ (r__law_begin hl)
  rintro σ ρ A0 A1 B1 S1 R1 ⟨gs, rfl⟩
  intro a ha
  have B2 := B1.new (o := .dK []) ha
  have S2 := Step.new (dr := none) (H0 := A0) (o := .dK []) ha
  have R2 := R1.step S2
  have oa := B1.out ha
  obtain ⟨v, hv, gv⟩ := R2.at_ 1 _ rfl
  cases gv with
  | @own g vs _ hg kg hg0 og _ =>
    refine ⟨_, hv, ?_⟩
    dsimp only [tPairs, tC]
    refine s2 none H σ _ A0 _ _ (fun z => ∃ cs : List Int, z = .own (cs.map D.int)) B2 R2 (r__law_cells hl fun cs => ⟨cs, rfl⟩) fun v z C0 C1 B3 S3 zv ⟨cs, ez⟩ => ?_
    subst ez
    cases zv with
    | @own c vc _ hc kc hc0 oc hsc =>
      have ne : g ≠ c := fun e => by rw [e, hsc] at hg; cases hg
      have ac : a ≠ c := fun e => by rw [← e, upd_same] at hsc; cases hsc
      have ag : g ≠ a := fun e => by rw [e, upd_same] at hg; cases hg
      have C1a := S3.same (a := a) upd_same oa
      have C0a : C0 a = none := own_kept S3 upd_same (B1.ex.free ha) oa
      have C1g := S3.same hg og
      have C0g : C0 g = none := own_kept S3 hg hg0 og
      refine ⟨C1a, drKvs ⟨a, g, c, cs, ne⟩ 0 0, rfl, (by show 4 ≤ 15; decide), ?_⟩
      have em : mergeK [] (drKvs ⟨a, g, c, cs, ne⟩ 0 0) = drKvs ⟨a, g, c, cs, ne⟩ 0 0 := by
        rw [mergeK_new _ _ (by simp [drKvs, n_gr, n_gc, n_gt, n_rc, n_rt, n_ct]), List.nil_append]
      rw [em]
      refine k ⟨a, g, c, cs, ne⟩ C0 _ ⟨fun b u h => ?_, fun y hy => ?_, fun t ht => ?_, fun b u h => ?_⟩ ((S1.trans S2).trans S3).e0
      · rw [upd_ne (fun e => by rw [e, C0a] at h; cases h)]
        exact B3.ex b u h
      · cases hy
        refine ⟨0, 0, gs, upd_same, ?_, ?_⟩
        · rw [upd_ne ag, C1g, kg.ints_of]
        · rw [upd_ne (Ne.symm ac), hc, kc.ints_of]
      · exact tabS_upd (B3.tb t ht) (oa.2 t ht) (by rw [C1a]; trivial)
      · refine ⟨fun y hy => ?_, (B3.fr b u h).2⟩
        cases hy
        exact ⟨fun e => (by rw [e, C0a] at h; cases h), fun e => (by rw [e, C0g] at h; cases h), fun e => (by rw [e, hc0] at h; cases h)⟩
/-- the law's promise -/
def GLaw (K : PySem.W.Frag) : Sp := fun vs H Q _ => ∃ (p : Addr) (ns : List Int), vs = [.ref p] ∧ ns.length ≤ 1000000 ∧ SqL K H p (ns.map V.int) ∧ (∀ t ∈ TabCx.ts, LamX.TabS H t.1 t.2 ∧ p ≠ t.1) ∧ ∀ H', Q (.bl true) H'
end
end GL
end
section
set_option linter.all false
set_option maxRecDepth 100000
set_option maxHeartbeats 4000000
namespace GL
open PySem L2 PySem.W PyProof.Rows
variable [TabCx]
/-! ### as many rings apart as can be, by looking at all -/
/-- rings apart, in their order -/
structure Dg (R g : List (List Str)) : Prop where
  sub : g.Sublist R
  dj : g.Pairwise fun a b => commonS b a = false
theorem Dg.grp {R g : List (List Str)} (h : Dg R g) : Grp R g := ⟨fun r hr => h.sub.subset hr, h.dj⟩
theorem mem_addRing_iff {G : List (List (List Str))} {r : List Str} {g : List (List Str)} : g ∈ addRing G r ↔ g ∈ G ∨ ∃ g', g' ∈ G ∧ (∀ o ∈ g', commonS r o = false) ∧ g = g' ++ [r] := by
  unfold addRing freeOf
  rw [List.mem_append, List.mem_map]
  constructor
  · rintro (h | ⟨g', h, rfl⟩)
    · exact .inl h
    · obtain ⟨h1, h2⟩ := List.mem_filter.mp h
      refine .inr ⟨g', h1, fun o ho => ?_, rfl⟩
      have h4 : g'.any (fun o => commonS r o) = false := by simpa using h2
      simpa using List.any_eq_false.mp h4 o ho
  · rintro (h | ⟨g', h1, h2, rfl⟩)
    · exact .inl h
    · refine .inr ⟨g', List.mem_filter.mpr ⟨h1, ?_⟩, rfl⟩
      rw [Bool.not_eq_true', List.any_eq_false]
      exact fun o ho => by rw [h2 o ho]; decide
theorem groups_snoc (R : List (List Str)) (r : List Str) : groupsOf (R ++ [r]) = addRing (groupsOf R) r := by
  unfold groupsOf
  rw [List.foldl_append]
  rfl
theorem snoc_ind {α : Type} {p : List α → Prop} (h0 : p []) (h1 : ∀ xs x, p xs → p (xs ++ [x])) : ∀ xs, p xs := fun xs => by
  have : ∀ ys : List α, p ys.reverse := fun ys => by
    induction ys with
    | nil => exact h0
    | cons y ys ih => rw [List.reverse_cons]; exact h1 _ _ ih
  have := this xs.reverse
  rwa [List.reverse_reverse] at this
theorem sublist_snoc {α : Type} {g R : List α} {r : α} (h : g.Sublist (R ++ [r])) : g.Sublist R ∨ ∃ g', g'.Sublist R ∧ g = g' ++ [r] := by
  obtain ⟨a, b, rfl, h1, h2⟩ := List.sublist_append_iff.mp h
  cases h2 with
  | cons _ h => cases h; rw [List.append_nil]; exact .inl h1
  | cons_cons _ h => cases h; exact .inr ⟨a, h1, rfl⟩
theorem groups_iff : ∀ (R g : List (List Str)), g ∈ groupsOf R ↔ Dg R g := by
  refine snoc_ind (fun g => ?_) fun R r ih g => ?_
  · constructor
    · intro h
      have : g = [] := by simpa [groupsOf] using h
      subst this
      exact ⟨.refl _, .nil⟩
    · intro h
      have : g = [] := by simpa using h.sub
      subst this
      simp [groupsOf]
  · rw [groups_snoc, mem_addRing_iff]
    constructor
    · rintro (h | ⟨g', h, hd, rfl⟩)
      · have o := (ih g).mp h
        exact ⟨o.sub.trans (List.sublist_append_left _ _), o.dj⟩
      · have o := (ih g').mp h
        exact ⟨List.Sublist.append o.sub (.refl _), List.pairwise_append.mpr ⟨o.dj, List.pairwise_singleton _ _, fun a ha b hb => by rw [List.mem_singleton.mp hb]; exact hd a ha⟩⟩
    · intro h
      rcases sublist_snoc h.sub with s | ⟨g', s, rfl⟩
      · exact .inl ((ih g).mpr ⟨s, h.dj⟩)
      · obtain ⟨d1, _, d3⟩ := List.pairwise_append.mp h.dj
        exact .inr ⟨g', (ih g').mpr ⟨s, d1⟩, fun o ho => d3 o ho r List.mem_cons_self, rfl⟩
/-- what is to be gone on from: at which place, which parties are used, how many rings -/
structure En where
  at' : Nat
  used : List Str
  many : Nat
def entD (e : En) : D := .tup [.int (e.at' : Int), tupS e.used, .int (e.many : Int)]
structure Ent (R : List (List Str)) (e : En) (g : List (List Str)) : Prop where
  le : e.at' ≤ R.length
  sub : g.Sublist (R.take e.at')
  dj : g.Pairwise fun a b => commonS b a = false
  used : e.used = g.flatten
  many : e.many = g.length
theorem Ent.dg {R : List (List Str)} {e : En} {g : List (List Str)} (h : Ent R e g) : Dg R g := ⟨h.sub.trans (List.take_sublist _ _), h.dj⟩
theorem common_flat {r : List Str} {g : List (List Str)} : commonS r g.flatten = false ↔ ∀ o ∈ g, commonS r o = false := by
  unfold commonS
  constructor
  · intro h o ho
    refine List.any_eq_false.mpr fun x hx e => ?_
    exact List.any_eq_false.mp h x hx (decide_eq_true (List.mem_flatten.mpr ⟨o, ho, of_decide_eq_true e⟩))
  · intro h
    refine List.any_eq_false.mpr fun x hx e => ?_
    obtain ⟨o, ho, hxo⟩ := List.mem_flatten.mp (of_decide_eq_true e)
    exact List.any_eq_false.mp (h o ho) x hx (decide_eq_true hxo)
/-- those that come of it by the ring at k -/
def nextE (R : List (List Str)) (e : En) (k : Nat) : Option En := match R[k]? with
  | some r => if commonS r e.used = false then some ⟨k + 1, e.used ++ r, e.many + 1⟩ else none
  | none => none
theorem next_ent {R : List (List Str)} {e e' : En} {g : List (List Str)} {k : Nat} (h : Ent R e g) (hk : e.at' ≤ k) (hn : nextE R e k = some e') : ∃ r, R[k]? = some r ∧ Ent R e' (g ++ [r]) := by
  unfold nextE at hn
  cases q : R[k]? with
  | none => rw [q] at hn; cases hn
  | some r =>
    rw [q] at hn
    dsimp only at hn
    split at hn
    · rename_i c
      cases hn
      have hl : k < R.length := (List.getElem?_eq_some_iff.mp q).1
      refine ⟨r, rfl, hl, ?_, ?_, ?_, ?_⟩
      · have e1 : R.take (k + 1) = R.take k ++ [r] := by rw [List.take_add_one, q]; rfl
        show (g ++ [r]).Sublist (R.take (k + 1))
        rw [e1]
        exact List.Sublist.append (h.sub.trans (List.take_sublist_take_left hk)) (.refl _)
      · rw [h.used] at c
        exact List.pairwise_append.mpr ⟨h.dj, List.pairwise_singleton _ _, fun a ha b hb => by rw [List.mem_singleton.mp hb]; exact common_flat.mp c a ha⟩
      · show e.used ++ r = _
        rw [h.used, List.flatten_append]; simp
      · show e.many + 1 = _
        rw [h.many, List.length_append]; rfl
    · cases hn
/-- the cost of going on -/
def costM (N : Nat) : Nat → Nat
  | 0 => 1
  | m + 1 => 1 + N * costM N m
def costE (N : Nat) (line : List En) : Nat := (line.map fun e => costM N (3 - e.many)).sum
theorem costM_pos (N m : Nat) : 1 ≤ costM N m := by
  cases m <;> simp [costM]
/-- the search, between two turns -/
structure Sr (R : List (List Str)) (best : Nat) (line : List En) : Prop where
  ent : ∀ e ∈ line, ∃ g, Ent R e g
  three : ∀ e ∈ line, e.many ≤ 3
  asc : line.Pairwise fun a b => a.many ≤ b.many
  cnt : ∀ i, line.countP (fun e => e.many == i) ≤ R.length + 1
  got : ∃ g, Dg R g ∧ g.length = best
  all : ∀ g, Dg R g → g.length ≤ best ∨ ∃ e ∈ line, ∃ g1 rest, Ent R e g1 ∧ g = g1 ++ rest ∧ rest.Sublist (R.drop e.at')
theorem Sr.len {R : List (List Str)} {best : Nat} {line : List En} (h : Sr R best line) : line.length ≤ 4 * (R.length + 1) := by
  have := len_by (fun e : En => e.many) line h.three
  have h0 := h.cnt 0
  have h1 := h.cnt 1
  have h2 := h.cnt 2
  have h3 := h.cnt 3
  omega
theorem Sr.begin (R : List (List Str)) : Sr R 0 [⟨0, [], 0⟩] := by
  have e0 : Ent R ⟨0, [], 0⟩ [] := ⟨Nat.zero_le _, List.nil_sublist _, .nil, rfl, rfl⟩
  refine ⟨fun e he => ?_, fun e he => ?_, List.pairwise_singleton _ _, fun i => ?_, ⟨[], ⟨List.nil_sublist _, .nil⟩, rfl⟩, fun g hg => .inr ⟨_, List.mem_cons_self, [], g, e0, rfl, hg.sub⟩⟩
  · rw [List.mem_singleton.mp he]; exact ⟨[], e0⟩
  · rw [List.mem_singleton.mp he]; exact Nat.zero_le _
  · exact Nat.le_trans List.countP_le_length (by simp)
/-- the entries that a turn adds -/
def adds (R : List (List Str)) (e : En) : List En := (List.range (R.length - e.at')).filterMap fun d => nextE R e (e.at' + d)
theorem adds_many {R : List (List Str)} {e e' : En} (h : e' ∈ adds R e) : e'.many = e.many + 1 := by
  obtain ⟨d, _, hd⟩ := List.mem_filterMap.mp h
  unfold nextE at hd
  split at hd
  · split at hd
    · cases hd; rfl
    · cases hd
  · cases hd
theorem adds_len (R : List (List Str)) (e : En) : (adds R e).length ≤ R.length := by
  unfold adds
  refine Nat.le_trans (List.length_filterMap_le _ _) ?_
  rw [List.length_range]
  omega
theorem Sr.turn {R : List (List Str)} {best : Nat} {line : List En} {e : En} (h3 : ∀ g, Dg R g → g.length ≤ 3) (h : Sr R best (line ++ [e])) : Sr R (max best e.many) (line ++ adds R e) := by
  obtain ⟨g0, he⟩ := h.ent e (by simp)
  have lm : ∀ x ∈ line, x.many ≤ e.many := fun x hx => (List.pairwise_append.mp h.asc).2.2 x hx e List.mem_cons_self
  have ent' : ∀ x ∈ adds R e, ∃ g, Ent R x g := fun x hx => by
    obtain ⟨d, _, hd⟩ := List.mem_filterMap.mp hx
    obtain ⟨r, _, o⟩ := next_ent he (Nat.le_add_right _ _) hd
    exact ⟨_, o⟩
  refine ⟨fun x hx => ?_, fun x hx => ?_, ?_, fun i => ?_, ?_, fun g hg => ?_⟩
  · rcases List.mem_append.mp hx with hx | hx
    · exact h.ent x (List.mem_append_left _ hx)
    · exact ent' x hx
  · rcases List.mem_append.mp hx with hx | hx
    · exact h.three x (List.mem_append_left _ hx)
    · obtain ⟨g, o⟩ := ent' x hx
      rw [o.many]
      exact h3 g o.dg
  · refine List.pairwise_append.mpr ⟨(List.pairwise_append.mp h.asc).1, ?_, fun a ha b hb => ?_⟩
    · refine List.pairwise_of_forall_mem_list fun a ha b hb => ?_
      rw [adds_many ha, adds_many hb]
      exact Nat.le_refl _
    · rw [adds_many hb]
      have := lm a ha
      omega
  · rw [List.countP_append]
    by_cases c : i = e.many + 1
    · have z : line.countP (fun x => x.many == i) = 0 := List.countP_eq_zero.mpr fun x hx q => by
        have := lm x hx
        have : x.many = i := by simpa using q
        omega
      rw [z]
      have := adds_len R e
      have := List.countP_le_length (p := fun x : En => x.many == i) (l := adds R e)
      omega
    · have z : (adds R e).countP (fun x => x.many == i) = 0 := List.countP_eq_zero.mpr fun x hx q => by
        rw [adds_many hx] at q
        exact c (by simpa using q : e.many + 1 = i).symm
      rw [z]
      have := h.cnt i
      rw [List.countP_append] at this
      omega
  · by_cases c : best ≤ e.many
    · rw [Nat.max_eq_right c]
      exact ⟨g0, he.dg, he.many.symm⟩
    · rw [Nat.max_eq_left (by omega)]
      exact h.got
  · rcases h.all g hg with l | ⟨x, hx, g1, rest, ox, eg, sr⟩
    · exact .inl (by omega)
    · rcases List.mem_append.mp hx with hx | hx
      · exact .inr ⟨x, List.mem_append_left _ hx, g1, rest, ox, eg, sr⟩
      · obtain rfl := List.mem_singleton.mp hx
        cases rest with
        | nil =>
          rw [List.append_nil] at eg
          subst eg
          have := ox.many
          exact .inl (by omega)
        | cons r rest =>
          obtain ⟨r1, r2, ed, hr, sr2⟩ := List.cons_sublist_iff.mp sr
          obtain ⟨d, hd, erd⟩ := List.mem_iff_getElem.mp hr
          have hl : x.at' + d < R.length := by
            have := congrArg List.length ed
            rw [List.length_drop, List.length_append] at this
            omega
          have hk : R[x.at' + d]? = some r := by
            have : (R.drop x.at')[d]? = some r := by rw [ed, List.getElem?_append_left hd, List.getElem?_eq_getElem hd, erd]
            rwa [List.getElem?_drop] at this
          have dj : ∀ o ∈ g1, commonS r o = false := fun o ho => by
            have := hg.dj
            rw [eg] at this
            exact (List.pairwise_append.mp this).2.2 o ho r List.mem_cons_self
          have hn : nextE R x (x.at' + d) = some ⟨x.at' + d + 1, x.used ++ r, x.many + 1⟩ := by
            unfold nextE
            rw [hk]
            dsimp only
            rw [if_pos (by rw [ox.used]; exact common_flat.mpr dj)]
          obtain ⟨r', hr', o'⟩ := next_ent ox (Nat.le_add_right _ _) hn
          rw [hk] at hr'
          cases hr'
          refine .inr ⟨_, List.mem_append_right _ (List.mem_filterMap.mpr ⟨d, List.mem_range.mpr (by omega), hn⟩), g1 ++ [r], rest, o', by rw [eg, List.append_assoc]; rfl, ?_⟩
          refine sr2.trans ?_
          show r2.Sublist (R.drop (x.at' + d + 1))
          have e2 : R.drop (x.at' + d + 1) = (r1 ++ r2).drop (d + 1) := by rw [← ed, List.drop_drop]; congr 1
          rw [e2, List.drop_append_of_le_length (by omega)]
          exact List.sublist_append_right _ _
theorem sum_rep (n c : Nat) : (List.replicate n c).sum = n * c := by
  induction n with
  | zero => simp
  | succ n ih => rw [List.replicate_succ, List.sum_cons, ih, Nat.add_mul]; omega
theorem cost_turn {R : List (List Str)} {N : Nat} (hN : R.length ≤ N) {line : List En} {e : En} (h3 : e.many + (adds R e).length.min 1 ≤ 3) : costE N (line ++ adds R e) < costE N (line ++ [e]) := by
  unfold costE
  rw [List.map_append, List.map_append, List.sum_append, List.sum_append]
  have e1 : ((adds R e).map fun x => costM N (3 - x.many)) = (adds R e).map fun _ => costM N (3 - (e.many + 1)) := List.map_congr_left fun x hx => by rw [adds_many hx]
  rw [e1, List.map_const', sum_rep]
  have al := adds_len R e
  cases q : (adds R e).length with
  | zero => have := costM_pos N (3 - e.many); simp; omega
  | succ n =>
    rw [q] at h3 al
    have e3 : 3 - e.many = (3 - (e.many + 1)) + 1 := by
      have : (n + 1).min 1 = 1 := by simp
      omega
    simp only [List.map_cons, List.map_nil, List.sum_cons, List.sum_nil, Nat.add_zero]
    rw [e3]
    simp only [costM]
    have := Nat.mul_le_mul_right (costM N (3 - (e.many + 1))) (Nat.le_trans al hN)
    omega
theorem Sr.fin {R : List (List Str)} {best : Nat} (h : Sr R best []) : best = (bestOf (groupsOf R)).length := by
  have o := best_ok (G := groupsOf R) (groups_ne R [[]] (by simp))
  obtain ⟨g, hg, rfl⟩ := h.got
  refine Nat.le_antisymm (o.2 g ((groups_iff R g).mpr hg)) ?_
  rcases h.all _ ((groups_iff R _).mp o.1) with l | ⟨e, he, _⟩
  · exact l
  · cases he
theorem fAdd_int {i j : Int} {P : Z → Prop} (p : P (.d (.int (i + j)))) : fAdd (.d (.int i)) (.d (.int j)) P := p
section
variable {K : PySem.W.Frag} {C : Addr} {zs : List Z} {P : Z → Prop}
def S__law_most : Spc := fun zs P => ∃ ps hs, zs = [.d (.lst ((ringsOf ps hs).map tupS))] ∧ OkPs ps ∧ OkHs ps hs ∧ P (.d (.int ((bestOf (groupsOf (ringsOf ps hs))).length : Int)))
theorem Ent.nm {ps : List Str} {hs : List (Str × Str)} (ok : OkPs ps) (okh : OkHs ps hs) {e : En} {g : List (List Str)} (h : Ent (ringsOf ps hs) e g) : (∀ x ∈ e.used, OkN x) ∧ e.used.length ≤ 6 := by
  have wo := rings_ok ok okh
  refine ⟨fun x hx => ?_, ?_⟩
  · rw [h.used] at hx
    obtain ⟨r, hr, hx⟩ := List.mem_flatten.mp hx
    exact wo.nm r (h.dg.grp.mem r hr) x hx
  · rw [h.used]; exact grp_flat ok okh h.dg.grp
theorem entD_nice {ps : List Str} {hs : List (Str × Str)} (ok : OkPs ps) (okh : OkHs ps hs) {e : En} {g : List (List Str)} (h : Ent (ringsOf ps hs) e g) : Nice 2 (entD e) := by
  have n := (h.nm ok okh).1
  have l1 := h.le
  have l2 := (rings_ok ok okh).len
  have l3 := grp_three ok okh h.dg.grp
  refine Nice.tup fun d hd => ?_
  simp only [List.mem_cons, List.not_mem_nil, or_false] at hd
  rcases hd with rfl | rfl | rfl
  · exact (Nice.int (by omega)).mono (by decide)
  · exact nice_tupS n
  · exact (Nice.int (by rw [h.many]; omega)).mono (by decide)
theorem adds_more {R : List (List Str)} {e : En} {g : List (List Str)} (h3 : ∀ g, Dg R g → g.length ≤ 3) (h : Ent R e g) : e.many + (adds R e).length.min 1 ≤ 3 := by
  have h0 := h3 g h.dg
  have h1 := h.many
  cases q : adds R e with
  | nil => simp; omega
  | cons x xs =>
    obtain ⟨d, _, hd⟩ := List.mem_filterMap.mp (show x ∈ adds R e by rw [q]; exact List.mem_cons_self)
    obtain ⟨r, _, o⟩ := next_ent h (Nat.le_add_right _ _) hd
    have h2 := h3 _ o.dg
    rw [List.length_append, List.length_singleton] at h2
    have : ((x :: xs).length).min 1 = 1 := by simp
    omega
theorem r__law_most (h : S__law_most zs P) : m__law_most K C { nx := fun _ => P (.d .non), rt := P } (startG N__law_most zs) := by
  obtain ⟨ps, hs, rfl, ok, okh, p⟩ := h
  have wo := rings_ok ok okh
  have lR := (rings_cnt ok okh).1
  have h3 : ∀ g, Dg (ringsOf ps hs) g → g.length ≤ 3 := fun g hg => grp_three ok okh hg.grp
  generalize hR : ringsOf ps hs = R at *
  dsimp only [m__law_most, mRet, mSeq, mIf, mSet, mSetO, mCB, mACons, mANil, mOp, mC, mCall, mDrop, mTst, mTru, mNot, mAnd, mOr, mAndV, mOrV, mNotV, mIfE, mLst, mTup, mLCons, mLNil, mDat, mNext, mChain, mIsi, mIsi2, mLc, mLc2, mWalk, mWalkD, mWalkS, mRng1, mRng2, mgN, mgT, mgCons, mgNil, mAsg, mFld, mProp, mMeth, mLenSet, mSortLR, mDGet, mDisp, mApp, mExt, mFor, mRetO, mPar2, mSto, mCallR, mFldS, mNever, mYes, mLenScr, mAs, mDrI, mDrS, mCells, mWalkScr, mDrPop, mAppPop, mSl, mOSome, mONone, mRev, mJoin, mFrz, mCallO, mSetCD, mDGetO, mDPutO, mFrzD, mAsgPop, mCallF, mSetF, mPar2F, mAppF, mAppF1, mBest, mIsi2V, mRng3, mReprL, mIndex, mAppT]
  refine sto_no ⟨_, rfl, _, rfl, (by show 0 ≤ sizeLine; decide), _, rfl, _, rfl, (by show 3 ≤ sizeLine; decide), _, rfl, (by show 1 ≤ sizeLine; decide), sto_yes ⟨_, rfl, costE R.length [⟨0, [], 0⟩] + 1, ?_⟩⟩
  refine wh_of (fun n ρ => ∃ best line x3 x4 x5 x6, costE R.length line < n ∧ Sr R best line ∧ ρ = [some (.d (.lst (R.map tupS))), some (.d (.int (best : Nat))), some (.own (line.map entD)), x3, x4, x5, x6, none]) ?_ ?_ _ _ ⟨0, [⟨0, [], 0⟩], none, none, none, none, Nat.lt_succ_self _, Sr.begin R, rfl⟩
  · rintro ρ ⟨best, line, _, _, _, _, hc, _⟩
    omega
  · rintro n ρ Nx ⟨best, line, x3, x4, x5, x6, hc, sr, rfl⟩ nx
    have ll := sr.len
    have en : ∀ x ∈ line.map entD, Nice 2 x := fun x hx => by
      obtain ⟨e, he, rfl⟩ := List.mem_map.mp hx
      obtain ⟨g, hg⟩ := sr.ent e he
      rw [← hR] at hg
      exact entD_nice ok okh hg
    refine var_at rfl rfl ⟨(by show 0 ≤ sizeLine; decide), ?_⟩
    refine fEq_of rfl rfl (Nice.lst en) (Nice.lst (n := 0) fun x hx => nomatch hx) line.isEmpty ?_ (p := ⟨_, rfl, ?_⟩)
    · cases line <;> simp [D.py, D.pys, PyData.eqv, PyData.eqvAll]
    · rcases (show line = [] ∨ ∃ l e, line = l ++ [e] from (List.eq_nil_or_concat line).imp id fun ⟨l, e, h⟩ => ⟨l, e, by rw [h, List.concat_eq_append]⟩) with rfl | ⟨line, e, rfl⟩
      · rw [if_neg (by decide)]
        rw [sr.fin, ← hR] at *
        exact var_at rfl rfl p
      · rw [if_pos (by cases line <;> rfl)]
        obtain ⟨g, hg⟩ := sr.ent e (by simp)
        have hg' := hg
        rw [← hR] at hg'
        obtain ⟨un, ul⟩ := hg'.nm ok okh
        have lm : e.many ≤ 3 := sr.three e (by simp)
        have la := hg.le
        have st := sr.turn h3
        have ct := cost_turn (Nat.le_refl R.length) (line := line) (adds_more h3 hg)
        rw [List.length_append, List.length_singleton] at ll
        dsimp only [mRet, mSeq, mIf, mSet, mSetO, mCB, mACons, mANil, mOp, mC, mCall, mDrop, mTst, mTru, mNot, mAnd, mOr, mAndV, mOrV, mNotV, mIfE, mLst, mTup, mLCons, mLNil, mDat, mNext, mChain, mIsi, mIsi2, mLc, mLc2, mWalk, mWalkD, mWalkS, mRng1, mRng2, mgN, mgT, mgCons, mgNil, mAsg, mFld, mProp, mMeth, mLenSet, mSortLR, mDGet, mDisp, mApp, mExt, mFor, mRetO, mPar2, mSto, mCallR, mFldS, mNever, mYes, mLenScr, mAs, mDrI, mDrS, mCells, mWalkScr, mDrPop, mAppPop, mSl, mOSome, mONone, mRev, mJoin, mFrz, mCallO, mSetCD, mDGetO, mDPutO, mFrzD, mAsgPop, mCallF, mSetF, mPar2F, mAppF, mAppF1, mBest, mIsi2V, mRng3, mReprL, mIndex, mAppT]
        refine ⟨line.map entD, entD e, by rw [List.map_append]; rfl, _, rfl, rfl, _, _, rfl, _, _, rfl, _, _, rfl, rfl, ?_⟩
        refine var_at rfl rfl (var_at rfl rfl ⟨_, _, rfl, _, rfl, ?_⟩)
        refine var_at rfl rfl (var_at rfl rfl (len_seq ⟨_, rfl⟩ ⟨_, _, rfl, ?_, ?_⟩))
        · rw [List.length_map]
          refine ⟨?_, ?_, ?_, ?_⟩ <;> omega
        rw [List.length_map, show (((R.length : Nat) : Int) - (e.at' : Int)).toNat = R.length - e.at' by omega]
        unfold rngD
        refine for_list (fun d : Nat => D.int ((e.at' : Int) + (d : Int))) (fun rest ρ => ∃ j x6, rest = (List.range (R.length - e.at')).drop j ∧ j + rest.length = R.length - e.at' ∧ ρ = [some (.d (.lst (R.map tupS))), some (.d (.int (if (e.many : Int) > (best : Int) then (e.many : Int) else (best : Int)))), some (.own ((line ++ (List.range j).filterMap fun d => nextE R e (e.at' + d)).map entD)), some (.d (.int (e.at' : Int))), some (.d (tupS e.used)), some (.d (.int (e.many : Int))), x6, none]) ?_ ?_ (List.range (R.length - e.at')) _ ⟨0, x6, rfl, by rw [List.length_range]; omega, by simp [List.set]⟩
        · rintro d rest ρ Nx' ⟨j, x6, er, el, rfl⟩ nx'
          rw [List.length_cons] at el
          have hj : j < R.length - e.at' := by omega
          rw [List.drop_eq_getElem_cons (by rw [List.length_range]; exact hj), List.getElem_range] at er
          obtain ⟨rfl, er⟩ := List.cons.inj er
          have hk : e.at' + d < R.length := by omega
          obtain ⟨r, hr⟩ : ∃ r, R[e.at' + d]? = some r := ⟨_, List.getElem?_eq_getElem hk⟩
          have hrm : r ∈ R := List.mem_of_getElem? hr
          have ix : atI (R.map tupS) ((e.at' : Int) + (d : Int)) = some (tupS r) := by
            rw [show (e.at' : Int) + (d : Int) = ((e.at' + d : Nat) : Int) by omega]
            exact atI_nat (by rw [List.getElem?_map, hr]; rfl)
          have l6 := (wo.six r hrm).2
          have lf : ((List.range d).filterMap fun d => nextE R e (e.at' + d)).length ≤ d := Nat.le_trans (List.length_filterMap_le _ _) (by rw [List.length_range]; exact Nat.le_refl _)
          dsimp only [mRet, mSeq, mIf, mSet, mSetO, mCB, mACons, mANil, mOp, mC, mCall, mDrop, mTst, mTru, mNot, mAnd, mOr, mAndV, mOrV, mNotV, mIfE, mLst, mTup, mLCons, mLNil, mDat, mNext, mChain, mIsi, mIsi2, mLc, mLc2, mWalk, mWalkD, mWalkS, mRng1, mRng2, mgN, mgT, mgCons, mgNil, mAsg, mFld, mProp, mMeth, mLenSet, mSortLR, mDGet, mDisp, mApp, mExt, mFor, mRetO, mPar2, mSto, mCallR, mFldS, mNever, mYes, mLenScr, mAs, mDrI, mDrS, mCells, mWalkScr, mDrPop, mAppPop, mSl, mOSome, mONone, mRev, mJoin, mFrz, mCallO, mSetCD, mDGetO, mDPutO, mFrzD, mAsgPop, mCallF, mSetF, mPar2F, mAppF, mAppF1, mBest, mIsi2V, mRng3, mReprL, mIndex, mAppT]
          refine var_at rfl rfl (var_at rfl rfl ⟨false, _, _, _, rfl, rfl, ix, true, _, rfl, ?_⟩)
          refine lc_list D.str (fun x => decide (x ∈ e.used)) D.str id r [] (fun x hx Pt Pf k => ?_) (small (by rw [List.length_nil]; omega)) ?_
          · dsimp only [mRet, mSeq, mIf, mSet, mSetO, mCB, mACons, mANil, mOp, mC, mCall, mDrop, mTst, mTru, mNot, mAnd, mOr, mAndV, mOrV, mNotV, mIfE, mLst, mTup, mLCons, mLNil, mDat, mNext, mChain, mIsi, mIsi2, mLc, mLc2, mWalk, mWalkD, mWalkS, mRng1, mRng2, mgN, mgT, mgCons, mgNil, mAsg, mFld, mProp, mMeth, mLenSet, mSortLR, mDGet, mDisp, mApp, mExt, mFor, mRetO, mPar2, mSto, mCallR, mFldS, mNever, mYes, mLenScr, mAs, mDrI, mDrS, mCells, mWalkScr, mDrPop, mAppPop, mSl, mOSome, mONone, mRev, mJoin, mFrz, mCallO, mSetCD, mDGetO, mDPutO, mFrzD, mAsgPop, mCallF, mSetF, mPar2F, mAppF, mAppF1, mBest, mIsi2V, mRng3, mReprL, mIndex, mAppT]
            refine var_at rfl rfl (var_at rfl rfl (in_strs (wo.nm r hrm x hx) un ⟨_, rfl⟩ (decide (x ∈ e.used)) rfl false ⟨_, rfl, ?_⟩))
            by_cases c : x ∈ e.used
            · rw [if_pos (decide_eq_true c)] at k
              rw [decide_eq_true c, if_pos (by decide)]
              exact var_at rfl rfl ⟨_, rfl, k⟩
            · rw [if_neg (by simpa using c)] at k
              rw [decide_eq_false c, if_neg (by decide)]
              exact k
          rw [List.map_id, List.nil_append]
          have en2 : ∀ y ∈ (r.filter fun x => decide (x ∈ e.used)).map D.str, Nice 0 y := fun y hy => by
            obtain ⟨x, hx, rfl⟩ := List.mem_map.mp hy
            exact (wo.nm r hrm x (List.mem_filter.mp hx).1).nice
          have ex : (List.range (d + 1)).filterMap (fun d => nextE R e (e.at' + d)) = (List.range d).filterMap (fun d => nextE R e (e.at' + d)) ++ (nextE R e (e.at' + d)).toList := by
            rw [List.range_succ, List.filterMap_append]
            congr 1
          have cm : (r.filter fun x => decide (x ∈ e.used)).isEmpty = !commonS r e.used := by
            unfold commonS
            cases q : r.any fun x => decide (x ∈ e.used) with
            | true =>
              obtain ⟨x, hx, hy⟩ := List.any_eq_true.mp q
              cases z : r.filter fun x => decide (x ∈ e.used) with
              | nil =>
                have := List.filter_eq_nil_iff.mp z x hx
                exact absurd hy this
              | cons => rfl
            | false =>
              have : (r.filter fun x => decide (x ∈ e.used)) = [] := List.filter_eq_nil_iff.mpr fun x hx => by simpa using List.any_eq_false.mp q x hx
              rw [this]; rfl
          refine ⟨(by show 0 ≤ sizeLine; decide), ?_⟩
          refine fEq_of rfl rfl (Nice.lst en2) (Nice.lst (n := 0) fun x hx => nomatch hx) (!commonS r e.used) ?_ (p := ⟨_, rfl, ?_⟩)
          · rw [← cm]
            cases r.filter fun x => decide (x ∈ e.used) <;> simp [D.py, D.pys, PyData.eqv, PyData.eqvAll]
          have hn : nextE R e (e.at' + d) = if commonS r e.used = false then some ⟨e.at' + d + 1, e.used ++ r, e.many + 1⟩ else none := by
            unfold nextE
            rw [hr]
          cases c : commonS r e.used with
          | false =>
            rw [if_pos (by decide)]
            rw [c, if_pos rfl] at hn
            refine ⟨_, rfl, var_at rfl rfl (fAdd_int ⟨_, rfl, var_at rfl rfl (var_at rfl rfl (var_at rfl rfl ⟨false, _, _, _, rfl, rfl, ix, ?_⟩))⟩)⟩
            refine ⟨by rw [List.length_map, List.length_map]; exact small (by omega), _, rfl, var_at rfl rfl (fAdd_int ⟨_, rfl, (by show 3 ≤ sizeLine; decide), _, rfl, small (by rw [List.length_map, List.length_append]; omega), nx' _ ⟨d + 1, some (.d (.int ((e.at' : Int) + (d : Int)))), er, by omega, ?_⟩⟩)⟩
            have he : D.tup [D.int ((e.at' : Int) + (d : Int) + 1), D.tup (e.used.map D.str ++ r.map D.str), D.int ((e.many : Int) + 1)] = entD ⟨e.at' + d + 1, e.used ++ r, e.many + 1⟩ := by
              unfold entD tupS
              dsimp only
              rw [List.map_append, show ((e.at' + d + 1 : Nat) : Int) = (e.at' : Int) + (d : Int) + 1 by omega, show ((e.many + 1 : Nat) : Int) = (e.many : Int) + 1 by omega]
            rw [he, ex, hn, ← List.append_assoc, List.map_append (l₂ := (some _).toList)]
            rfl
          | true =>
            rw [if_neg (by decide)]
            rw [c, if_neg (by decide)] at hn
            refine nx' _ ⟨d + 1, some (.d (.int ((e.at' : Int) + (d : Int)))), er, by omega, ?_⟩
            rw [ex, hn]
            simp [List.set]
        · rintro ρ ⟨j, x6, er, el, rfl⟩
          have ej : j = R.length - e.at' := by simpa using el
          subst ej
          have em : (if (e.many : Int) > (best : Int) then (e.many : Int) else (best : Int)) = ((max best e.many : Nat) : Int) := by split <;> omega
          rw [em]
          exact nx _ ⟨max best e.many, line ++ adds R e, _, _, _, _, by omega, st, rfl⟩
end
end GL
end
section
set_option linter.all false
set_option maxRecDepth 100000
set_option maxHeartbeats 4000000
namespace GL
open PySem L2 PySem.W PyProof.Rows
variable [TabCx]
theorem nos_strs (k : Kd) (xs : List Str) : D.nos k (xs.map D.str) = true := by
  rw [D.nos_eq, List.all_map]
  exact List.all_eq_true.mpr fun x _ => by simp [D.no]
theorem no_tupS (k : Kd) (xs : List Str) : (tupS xs).no k = true := by
  show D.no k (.tup _) = true
  rw [D.no]
  exact nos_strs k xs
theorem no_webD (k : Kd) (C : Addr) (ps : List Str) (hs : List (Str × Str)) : (webD C ps hs).no k = true := by
  unfold webD
  rw [D.no, D.nos_eq]
  simp only [List.all_cons, List.all_nil, Bool.and_true, Bool.and_eq_true]
  refine ⟨no_tupS k ps, ?_⟩
  rw [D.no, D.nos_eq, List.all_map]
  exact List.all_eq_true.mpr fun x _ => no_tupS k _
theorem same_txt0 {a : Str} {P : Z → Prop} (p : P (.d (.bl true))) : fEqT false (.d (.str a)) (.d (.str a)) P := .inr ⟨a, a, rfl, rfl, by
  rw [decide_eq_true rfl]
  exact p⟩
theorem grp_nodup {ps : List Str} {hs : List (Str × Str)} (okh : OkHs ps hs) {g : List (List Str)} (h : Grp (ringsOf ps hs) g) : g.flatten.Nodup := by
  refine List.pairwise_flatten.mpr ⟨fun r hr => (ring_two okh (h.mem r hr)).1, h.dj.imp fun {a b} hab x hx y hy e => ?_⟩
  subst e
  have := List.any_eq_false.mp hab x hy
  exact this (decide_eq_true hx)
section
variable {K : PySem.W.Frag} {C : Addr} {zs : List Z} {P : Z → Prop}
def S__law_right (C : Addr) : Spc := fun zs P => ∃ ps hs, zs = [.d (mdD ps hs), .d (webD C ps hs)] ∧ OkPs ps ∧ OkHs ps hs ∧ P (.d (.bl true))
theorem r__law_right (h : S__law_right C zs P) : m__law_right K C S__law_most S__law_rings (S_apart C) { nx := fun _ => P (.d .non), rt := P } (startG N__law_right zs) := by
  obtain ⟨ps, hs, rfl, ok, okh, p⟩ := h
  have wo := rings_ok ok okh
  have bo := best_ok (G := groupsOf (ringsOf ps hs)) (groups_ne (ringsOf ps hs) [[]] (by simp))
  have dg := (groups_iff (ringsOf ps hs) _).mp bo.1
  have l3 := grp_three ok okh dg.grp
  have lf := grp_flat ok okh dg.grp
  have nd := grp_nodup okh dg.grp
  generalize hg : bestOf (groupsOf (ringsOf ps hs)) = g at *
  have wn : ∀ w ∈ g, ∀ x ∈ w, OkN x := fun w hw => wo.nm w (dg.grp.mem w hw)
  have w6 : ∀ w ∈ g, w.length ≤ 6 := fun w hw => (wo.six w (dg.grp.mem w hw)).2
  have ng : Nice 2 (grpD g) := Nice.lst fun d hd => by
    obtain ⟨w, hw, rfl⟩ := List.mem_map.mp hd
    exact nice_tupS (wn w hw)
  have bg : (grpD g).py.bulk ≤ 2 ^ 20 := Nat.le_trans (bulk_lst (n := 3) (k := 42) (fun d hd => by
    obtain ⟨w, hw, rfl⟩ := List.mem_map.mp hd
    exact bulk_tupS (n := 6) (wn w hw) (w6 w hw)) (by rw [List.length_map]; exact l3)) (by decide)
  dsimp only [m__law_right, mRet, mSeq, mIf, mSet, mSetO, mCB, mACons, mANil, mOp, mC, mCall, mDrop, mTst, mTru, mNot, mAnd, mOr, mAndV, mOrV, mNotV, mIfE, mLst, mTup, mLCons, mLNil, mDat, mNext, mChain, mIsi, mIsi2, mLc, mLc2, mWalk, mWalkD, mWalkS, mRng1, mRng2, mgN, mgT, mgCons, mgNil, mAsg, mFld, mProp, mMeth, mLenSet, mSortLR, mDGet, mDisp, mApp, mExt, mFor, mRetO, mPar2, mSto, mCallR, mFldS, mNever, mYes, mLenScr, mAs, mDrI, mDrS, mCells, mWalkScr, mDrPop, mAppPop, mSl, mOSome, mONone, mRev, mJoin, mFrz, mCallO, mSetCD, mDGetO, mDPutO, mFrzD, mAsgPop, mCallF, mSetF, mPar2F, mAppF, mAppF1, mBest, mIsi2V, mRng3, mReprL, mIndex, mAppT]
  refine var_at rfl rfl ⟨ps, hs, rfl, ok, okh, sto_no ⟨_, rfl, ?_⟩⟩
  refine var_at rfl rfl ⟨?_, ps, hs, rfl, ok, okh, _, rfl, ?_, _, rfl, ?_⟩
  · show (Z.no .lst (.d (webD C ps hs)) && true) = true
    rw [Bool.and_true]; exact no_webD .lst C ps hs
  · rw [hg]; exact ng.plain
  rw [hg]
  refine var_at rfl rfl ⟨.type "list", true, rfl, noC, kit_self K _, true, rfl, ?_⟩
  rw [if_neg (by decide)]
  refine var_at rfl rfl ⟨false, _, rfl, ?_⟩
  refine lc_list tupS (fun _ => false) tupS id g [] (fun w hw Pt Pf k => ?_) (small (by rw [List.length_nil]; omega)) ?_
  · dsimp only [mRet, mSeq, mIf, mSet, mSetO, mCB, mACons, mANil, mOp, mC, mCall, mDrop, mTst, mTru, mNot, mAnd, mOr, mAndV, mOrV, mNotV, mIfE, mLst, mTup, mLCons, mLNil, mDat, mNext, mChain, mIsi, mIsi2, mLc, mLc2, mWalk, mWalkD, mWalkS, mRng1, mRng2, mgN, mgT, mgCons, mgNil, mAsg, mFld, mProp, mMeth, mLenSet, mSortLR, mDGet, mDisp, mApp, mExt, mFor, mRetO, mPar2, mSto, mCallR, mFldS, mNever, mYes, mLenScr, mAs, mDrI, mDrS, mCells, mWalkScr, mDrPop, mAppPop, mSl, mOSome, mONone, mRev, mJoin, mFrz, mCallO, mSetCD, mDGetO, mDPutO, mFrzD, mAsgPop, mCallF, mSetF, mPar2F, mAppF, mAppF1, mBest, mIsi2V, mRng3, mReprL, mIndex, mAppT]
    rw [if_neg (by decide)] at k
    refine var_at rfl rfl (var_at rfl rfl ⟨tupS w, false, _, rfl, rfl, (nice_tupS (wn w hw)).ok (by decide), wo.nice.ok (by decide), _, rfl, ?_⟩)
    have : ((ringsOf ps hs).map tupS).any (fun z => PyData.eqv z.py (tupS w).py) = true := List.any_eq_true.mpr ⟨tupS w, List.mem_map.mpr ⟨w, dg.grp.mem w hw, rfl⟩, by rw [eqv_tupS]; exact decide_eq_true rfl⟩
    rw [this, if_neg (by decide)]
    exact k
  rw [show (g.filter fun _ => false) = [] by simp, List.map_nil, List.map_nil, List.append_nil]
  refine ⟨(by show 0 ≤ sizeLine; decide), ?_⟩
  refine fEq_of rfl rfl (Nice.lst (n := 0) fun x hx => nomatch hx) (Nice.lst (n := 0) fun x hx => nomatch hx) true (by simp [D.py, D.pys, PyData.eqv, PyData.eqvAll]) (p := ⟨_, rfl, ?_⟩)
  rw [if_neg (by decide)]
  refine ⟨(by show 0 ≤ sizeLine; decide), _, rfl, ?_⟩
  refine var_at rfl rfl ⟨_, rfl, false, _, rfl, ?_⟩
  refine for_list tupS (fun rest ρ => ∃ done x4, done ++ rest = g ∧ ρ = [some (.d (mdD ps hs)), some (.d (webD C ps hs)), some (.d (.lst ((ringsOf ps hs).map tupS))), some (.frs (grpD g)), x4, some (.d (.lst (done.flatten.map D.str))), none]) ?_ ?_ g _ ⟨[], none, rfl, rfl⟩
  · rintro w rest ρ Nx ⟨done, x4, e, rfl⟩ nx
    have hw : w ∈ g := by rw [← e]; simp
    have := w6 w hw
    have l5 : done.flatten.length ≤ 6 := by
      rw [← e, List.flatten_append, List.length_append] at lf
      omega
    dsimp only [mRet, mSeq, mIf, mSet, mSetO, mCB, mACons, mANil, mOp, mC, mCall, mDrop, mTst, mTru, mNot, mAnd, mOr, mAndV, mOrV, mNotV, mIfE, mLst, mTup, mLCons, mLNil, mDat, mNext, mChain, mIsi, mIsi2, mLc, mLc2, mWalk, mWalkD, mWalkS, mRng1, mRng2, mgN, mgT, mgCons, mgNil, mAsg, mFld, mProp, mMeth, mLenSet, mSortLR, mDGet, mDisp, mApp, mExt, mFor, mRetO, mPar2, mSto, mCallR, mFldS, mNever, mYes, mLenScr, mAs, mDrI, mDrS, mCells, mWalkScr, mDrPop, mAppPop, mSl, mOSome, mONone, mRev, mJoin, mFrz, mCallO, mSetCD, mDGetO, mDPutO, mFrzD, mAsgPop, mCallF, mSetF, mPar2F, mAppF, mAppF1, mBest, mIsi2V, mRng3, mReprL, mIndex, mAppT]
    refine var_at rfl rfl (var_at rfl rfl ⟨_, true, _, rfl, rfl, _, _, rfl, rfl, small (by rw [List.length_map, List.length_map]; omega), _, rfl, nx _ ⟨done ++ [w], some (.d (tupS w)), by rw [List.append_assoc]; exact e, ?_⟩⟩)
    rw [← List.map_append]
    simp [List.set]
  · rintro ρ ⟨done, x4, e, rfl⟩
    rw [List.append_nil] at e
    subst e
    dsimp only [mRet, mSeq, mIf, mSet, mSetO, mCB, mACons, mANil, mOp, mC, mCall, mDrop, mTst, mTru, mNot, mAnd, mOr, mAndV, mOrV, mNotV, mIfE, mLst, mTup, mLCons, mLNil, mDat, mNext, mChain, mIsi, mIsi2, mLc, mLc2, mWalk, mWalkD, mWalkS, mRng1, mRng2, mgN, mgT, mgCons, mgNil, mAsg, mFld, mProp, mMeth, mLenSet, mSortLR, mDGet, mDisp, mApp, mExt, mFor, mRetO, mPar2, mSto, mCallR, mFldS, mNever, mYes, mLenScr, mAs, mDrI, mDrS, mCells, mWalkScr, mDrPop, mAppPop, mSl, mOSome, mONone, mRev, mJoin, mFrz, mCallO, mSetCD, mDGetO, mDPutO, mFrzD, mAsgPop, mCallF, mSetF, mPar2F, mAppF, mAppF1, mBest, mIsi2V, mRng3, mReprL, mIndex, mAppT]
    refine var_at rfl rfl ⟨false, _, rfl, .inl ⟨done.flatten, rfl, nd, by omega⟩, ?_⟩
    refine var_at rfl rfl (len_seq ⟨_, rfl⟩ ?_)
    refine fEq_of rfl rfl (Nice.int (by rw [List.length_map]; omega)) (Nice.int (by rw [List.length_map]; omega)) true (by rw [eqv_int]; exact decide_eq_true rfl) (p := ⟨_, rfl, ?_⟩)
    rw [if_neg (by decide)]
    refine var_at rfl rfl (len_seq ⟨_, rfl⟩ (var_at rfl rfl ⟨ps, hs, rfl, ok, okh, ?_⟩))
    rw [hg, List.length_map]
    refine fEq_of rfl rfl (Nice.int (by omega)) (Nice.int (by omega)) true (by rw [eqv_int]; exact decide_eq_true rfl) (p := ⟨_, rfl, ?_⟩)
    rw [if_neg (by decide)]
    refine var_at rfl rfl (repr_of rfl rfl ng bg ⟨_, rfl, ?_⟩)
    refine ⟨rfl, done.map tupS, [none, some (.d (webD C ps hs)), none, none, none, none, some (.d (.str (grpD done).py.shown))], rfl, Nat.lt_of_lt_of_le (by rw [List.length_map]; omega : _ < 1000000) (by decide), ⟨rfl, fun j g' hj => ?_⟩, ?_⟩
    · match j, hj with
      | 0, hj => cases hj
      | 1, hj => cases hj; exact ⟨rfl, no_webD .lst C ps hs⟩
      | 2, hj => cases hj
      | 3, hj => cases hj
      | 4, hj => cases hj
      | 5, hj => cases hj
      | 6, hj => cases hj; exact ⟨rfl, by simp [keepG, D.no]⟩
      | j + 7, hj => simp at hj
    · refine var_at rfl rfl ⟨ps, hs, rfl, ok, okh, ?_⟩
      rw [hg]
      refine repr_of rfl rfl ng bg ?_
      exact var_at rfl rfl (same_txt0 p)
/-! ### the law -/
/-- two and two of a row -/
def two2 (row : List Str) : List (Str × Str) := (List.range (row.length / 2)).map fun k => (at_ row (2 * k), at_ row (2 * k + 1))
def swap2 (xs : List (Str × Str)) : List (Str × Str) := xs.map fun h => (h.2, h.1)
theorem two_ok {ps row : List Str} (pm : row.Perm ps) (nd : ps.Nodup) : ∀ h ∈ two2 row, OkH ps h := fun h hh => by
  obtain ⟨k, hk, rfl⟩ := List.mem_map.mp hh
  have hk := List.mem_range.mp hk
  have n2 := pm.nodup_iff.mpr nd
  exact ⟨pm.mem_iff.mp (at_mem (by omega)), pm.mem_iff.mp (at_mem (by omega)), fun e => by have := at_inj n2 (by omega) (by omega) e; omega⟩
theorem swap_ok {ps : List Str} {xs : List (Str × Str)} (h : ∀ x ∈ xs, OkH ps x) : ∀ x ∈ swap2 xs, OkH ps x := fun x hx => by
  obtain ⟨y, hy, rfl⟩ := List.mem_map.mp hx
  have o := h y hy
  exact ⟨o.b, o.a, Ne.symm o.ne⟩
theorem two_nd {ps row : List Str} (pm : row.Perm ps) (nd : ps.Nodup) : (two2 row ++ swap2 (two2 row)).Nodup := by
  have n2 := pm.nodup_iff.mpr nd
  refine List.nodup_append.mpr ⟨?_, ?_, fun x hx y hy e => ?_⟩
  · refine List.pairwise_map.mpr (List.Pairwise.imp_of_mem (fun {a b} ha hb ne e => ne ?_) List.nodup_range)
    have ha := List.mem_range.mp ha
    have hb := List.mem_range.mp hb
    have := at_inj n2 (by omega) (by omega) (Prod.mk.inj e).1
    omega
  · refine List.pairwise_map.mpr (List.pairwise_map.mpr (List.Pairwise.imp_of_mem (fun {a b} ha hb ne e => ne ?_) List.nodup_range))
    have ha := List.mem_range.mp ha
    have hb := List.mem_range.mp hb
    have := at_inj n2 (by omega) (by omega) (Prod.mk.inj e).2
    omega
  · obtain ⟨z, hz, rfl⟩ := List.mem_map.mp hy
    obtain ⟨a, ha, rfl⟩ := List.mem_map.mp hx
    obtain ⟨b, hb, rfl⟩ := List.mem_map.mp hz
    have ha := List.mem_range.mp ha
    have hb := List.mem_range.mp hb
    have := at_inj n2 (by omega) (by omega) (Prod.mk.inj e).1
    omega
theorem rngC_two {n : Nat} (h2 : 2 ≤ n) (h6 : n ≤ 6) : RgC 0 ((n : Int) - 1) 2 (n / 2) := by
  have : n = 2 ∨ n = 3 ∨ n = 4 ∨ n = 5 ∨ n = 6 := by omega
  rcases this with rfl | rfl | rfl | rfl | rfl <;> exact ⟨by decide, by decide, by decide, by decide⟩
def ksM : List Key := [Sum.inr "dots", Sum.inr "ties"]
theorem put_ties {a b y : D} : putKs ksM (Sum.inr "ties") = ksM ∧ putXs ksM [a, b] (Sum.inr "ties") y = [a, y] := by
  have e1 : (Sum.inr ("ties" : Str) : Key) ∈ ksM := by simp [ksM]
  have e2 : ¬ ((Sum.inr ("dots" : Str) : Key) = Sum.inr ("ties" : Str)) := by decide +kernel
  refine ⟨if_pos e1, ?_⟩
  unfold putXs
  rw [if_pos e1]
  unfold ksM
  simp only [List.zip_cons_cons, List.map_cons, List.zip_nil_left, List.map_nil]
  rw [if_neg e2]
  simp
def m_rest (C : Addr) (S__law_mixed S__law_pairs S__law_web S__law_right S_with_handing : Spc) : GMS := (mSeq (mFrzD 3 (mSet 7 (mCall S__law_web (mACons (mVar 3) mANil)))) (mSeq (mIf (mNot (mTst (mCall S__law_right (mACons (mVar 3) (mACons (mVar 7) mANil))))) (mRet (mC (.bl false))) mNext) (mSeq (mSet 8 (mSl (mLc (mWalk (mCall S__law_mixed (mACons (mVar 1) (mACons (mCall S__law_pairs (mACons (mDGet "dots" (mDat (mVar 3))) mANil)) mANil)))) (mgN 11) (mTst (mOp (fIn true) (mVar 11) (mDGet "ties" (mDat (mVar 3))))) (mDat (mVar 11)) (List.map (fun x => x.2) ([("_law_pair", 11)] : List (Str × Nat)))) mONone (mOSome (mC (.int 1))))) (mIf (mAnd (mTst (mOp (fEq true) (mVar 8) (mLst mLNil))) (mTst (mOp fLt (mCB fLen (mACons (mDGet "ties" (mDat (mVar 3))) mANil)) (mC (.int 12))))) (mSeq (mSet 9 (mDisp ["dots", "ties"] (mLCons (mDat (mDGet "dots" (mDat (mVar 3)))) (mLCons (mDat (mCB fSorted (mACons (mOp fAdd (mDGet "ties" (mDat (mVar 3))) (mVar 8)) mANil))) mLNil)))) (mIf (mOr (mNot (mTst (mCall S__law_right (mACons (mVar 9) (mACons (mMeth C "with_handing" S_with_handing (mDat (mVar 7)) (mACons (mOp fIx (mVar 8) (mC (.int 0))) mANil)) mANil))))) (mNot (mTst (mCall S__law_right (mACons (mVar 3) (mACons (mVar 7) mANil)))))) (mRet (mC (.bl false))) mNext)) mNext))))
theorem law_split {S__law_mixed S__law_model S__law_pairs S__law_take S__law_web S__law_right S_with_handing : Spc} : m_law K C S__law_mixed S__law_model S__law_pairs S__law_take S__law_web S__law_right S_with_handing =
  mSeq (mFor (mRng1 (mACons (mOp fAdd (mC (.int 1)) (mCB (fMM false) (mACons (mLenScr 0) (mACons (mC (.int 1)) mANil)))) mANil)) (mgN 2) (mSeq (mSetCD 3 S__law_model (mACons (mVar 1) (mACons (mC (.int 6)) (mACons (mC (.int 12)) mANil)))) (mSeq (mIf (mTst (mOp (fEq false) (mCall S__law_take (mACons (mVar 1) (mACons (mC (.int 3)) mANil))) (mC (.int 0)))) (mSeq (mSet 4 (mCall S__law_mixed (mACons (mVar 1) (mACons (mDGetO 3 "dots") mANil)))) (mSeq (mSet 5 (mLc (mRng3 (mACons (mC (.int 0)) (mACons (mOp fSub (mCB fLen (mACons (mVar 4) mANil)) (mC (.int 1))) (mACons (mC (.int 2)) mANil)))) (mgN 10) mYes (mDat (mTup (mLCons (mDat (mOp fIx (mVar 4) (mVar 10))) (mLCons (mDat (mOp fIx (mVar 4) (mOp fAdd (mVar 10) (mC (.int 1))))) mLNil)))) (List.map (fun x => x.2) ([("_law_k", 10)] : List (Str × Nat))))) (mSeq (mSet 6 (mLc (mWalk (mOp fAdd (mVar 5) (mLc (mWalk (mVar 5)) (mgT 2 (mgCons (mgN 12) (mgCons (mgN 13) mgNil))) mYes (mDat (mTup (mLCons (mDat (mVar 13)) (mLCons (mDat (mVar 12)) mLNil)))) (List.map (fun x => x.2) ([("_law_one", 12), ("_law_other", 13)] : List (Str × Nat)))))) (mgN 11) (mTst (mOp (fIn true) (mVar 11) (mDGetO 3 "ties"))) (mDat (mVar 11)) (List.map (fun x => x.2) ([("_law_pair", 11)] : List (Str × Nat))))) (mDPutO 3 "ties" (mDat (mCB fSorted (mACons (mSl (mOp fAdd (mVar 6) (mDGetO 3 "ties")) mONone (mOSome (mC (.int 12)))) mANil))))))) mNext) (m_rest C S__law_mixed S__law_pairs S__law_web S__law_right S_with_handing)))) (mRet (mC (.bl true))) := rfl
theorem take_sub {α : Type} {xs : List α} {n : Nat} : ∀ x ∈ xs.take n, x ∈ xs := fun x hx => List.mem_of_mem_take hx
theorem r_rest {ps : List Str} {hs : List (Str × Str)} {E : GEnds} {x0 x2 x4 x5 x6 x7 x8 x9 : Option G} (md : MdOk ps hs) (n0 : ∀ ks xs, x0 ≠ some (.odc ks xs)) (n2 : ∀ ks xs, x2 ≠ some (.odc ks xs)) (n4 : ∀ ks xs, x4 ≠ some (.odc ks xs)) (n5 : ∀ ks xs, x5 ≠ some (.odc ks xs)) (n6 : ∀ ks xs, x6 ≠ some (.odc ks xs)) (n7 : ∀ ks xs, x7 ≠ some (.odc ks xs)) (n8 : ∀ ks xs, x8 ≠ some (.odc ks xs)) (n9 : ∀ ks xs, x9 ≠ some (.odc ks xs))
    (nx : ∀ x7 x8, E.nx [x0, some .drw, x2, some (.d (mdD ps hs)), x4, x5, x6, some (.d x7), some (.d x8), x9, none, none, none, none]) (nx9 : ∀ x7 x8 x9, E.nx [x0, some .drw, x2, some (.d (mdD ps hs)), x4, x5, x6, some (.d x7), some (.d x8), some (.d x9), none, none, none, none]) :
    m_rest C S__law_mixed S__law_pairs (S__law_web C) (S__law_right C) (S_with_handing C) E [x0, some .drw, x2, some (.odc ksM [.lst (ps.map D.str), .lst (hs.map hD)]), x4, x5, x6, x7, x8, x9, none, none, none, none] := by
  have ok := md.ok
  have okh := md.okh
  have h12 := okh.twelve
  have pl := pairs_len ok.six
  dsimp only [m_rest, mRet, mSeq, mIf, mSet, mSetO, mCB, mACons, mANil, mOp, mC, mCall, mDrop, mTst, mTru, mNot, mAnd, mOr, mAndV, mOrV, mNotV, mIfE, mLst, mTup, mLCons, mLNil, mDat, mNext, mChain, mIsi, mIsi2, mLc, mLc2, mWalk, mWalkD, mWalkS, mRng1, mRng2, mgN, mgT, mgCons, mgNil, mAsg, mFld, mProp, mMeth, mLenSet, mSortLR, mDGet, mDisp, mApp, mExt, mFor, mRetO, mPar2, mSto, mCallR, mFldS, mNever, mYes, mLenScr, mAs, mDrI, mDrS, mCells, mWalkScr, mDrPop, mAppPop, mSl, mOSome, mONone, mRev, mJoin, mFrz, mCallO, mSetCD, mDGetO, mDPutO, mFrzD, mAsgPop, mCallF, mSetF, mPar2F, mAppF, mAppF1, mBest, mIsi2V, mRng3, mReprL, mIndex, mAppT]
  refine ⟨_, _, rfl, fun j ks xs hj e => ?_, ?_⟩
  · match j, hj, e with
    | 0, _, e => exact n0 _ _ (Option.some.inj e)
    | 1, _, e => cases e
    | 2, _, e => exact n2 _ _ (Option.some.inj e)
    | 4, _, e => exact n4 _ _ (Option.some.inj e)
    | 5, _, e => exact n5 _ _ (Option.some.inj e)
    | 6, _, e => exact n6 _ _ (Option.some.inj e)
    | 7, _, e => exact n7 _ _ (Option.some.inj e)
    | 8, _, e => exact n8 _ _ (Option.some.inj e)
    | 9, _, e => exact n9 _ _ (Option.some.inj e)
    | 10, _, e => cases e
    | 11, _, e => cases e
    | 12, _, e => cases e
    | 13, _, e => cases e
    | j + 14, _, e => simp at e
  refine var_at (g := .d (mdD ps hs)) rfl rfl ⟨ps, hs, rfl, md, _, rfl, ?_⟩
  refine var_at (g := .d (mdD ps hs)) rfl rfl (var_at rfl rfl ⟨ps, hs, rfl, ok, okh, true, rfl, ?_⟩)
  rw [if_neg (by decide)]
  refine var_at rfl rfl (var_at (g := .d (mdD ps hs)) rfl rfl ⟨_, rfl, _, _, _, rfl, md_dots, ps, rfl, ok.nm, ok.six, ?_⟩)
  refine ⟨_, _, rfl, .inr rfl, by rw [List.length_map]; omega, nice_hDs ok (fun h hh => pairs_ok h hh), fun ys perm => ?_⟩
  obtain ⟨qs, rfl, pm⟩ := perm_map_of perm _ rfl
  have okq : ∀ h ∈ qs, OkH ps h := fun h hh => pairs_ok h (pm.mem_iff.mp hh)
  have lq : qs.length ≤ 36 := by rw [pm.length_eq]; exact pl
  refine ⟨false, _, rfl, ?_⟩
  refine lc_list hD (fun h => decide (h ∉ hs)) hD id qs [] (fun h hh Pt Pf k => ?_) (small (by rw [List.length_nil]; omega)) ?_
  · dsimp only [mRet, mSeq, mIf, mSet, mSetO, mCB, mACons, mANil, mOp, mC, mCall, mDrop, mTst, mTru, mNot, mAnd, mOr, mAndV, mOrV, mNotV, mIfE, mLst, mTup, mLCons, mLNil, mDat, mNext, mChain, mIsi, mIsi2, mLc, mLc2, mWalk, mWalkD, mWalkS, mRng1, mRng2, mgN, mgT, mgCons, mgNil, mAsg, mFld, mProp, mMeth, mLenSet, mSortLR, mDGet, mDisp, mApp, mExt, mFor, mRetO, mPar2, mSto, mCallR, mFldS, mNever, mYes, mLenScr, mAs, mDrI, mDrS, mCells, mWalkScr, mDrPop, mAppPop, mSl, mOSome, mONone, mRev, mJoin, mFrz, mCallO, mSetCD, mDGetO, mDPutO, mFrzD, mAsgPop, mCallF, mSetF, mPar2F, mAppF, mAppF1, mBest, mIsi2V, mRng3, mReprL, mIndex, mAppT]
    refine var_at rfl rfl (var_at (g := .d (mdD ps hs)) rfl rfl ⟨_, rfl, _, _, _, rfl, md_ties, in_hDs ok (okq h hh) okh.ok ⟨_, rfl⟩ (decide (h ∈ hs)) rfl true ⟨_, rfl, ?_⟩⟩)
    by_cases c : h ∈ hs
    · rw [if_neg (by simpa using c)] at k
      rw [decide_eq_true c]
      exact k
    · rw [if_pos (by simpa using c)] at k
      rw [decide_eq_false c]
      exact var_at rfl rfl ⟨_, rfl, k⟩
  rw [List.map_id, List.nil_append]
  refine ⟨_, rfl, _, rfl, ?_⟩
  rw [show ∀ xs : List D, cutD xs none (some 1) = xs.take 1 from fun xs => cut_take (n := 1), ← List.map_take]
  generalize hm : (qs.filter fun h => decide (h ∉ hs)).take 1 = more
  have okm : ∀ h ∈ more, OkH ps h ∧ h ∉ hs := fun h hh => by
    rw [← hm] at hh
    obtain ⟨q1, q2⟩ := List.mem_filter.mp (take_sub h hh)
    exact ⟨okq h q1, by simpa using q2⟩
  have lm : more.length ≤ 1 := by rw [← hm, List.length_take]; omega
  refine ⟨_, rfl, ?_⟩
  refine var_at rfl rfl ⟨(by show 0 ≤ sizeLine; decide), ?_⟩
  have nm : Nice 2 (.lst (more.map hD)) := Nice.lst fun d hd => by
    obtain ⟨h, hh, rfl⟩ := List.mem_map.mp hd
    exact (okm h hh).1.nice ok.nm
  refine fEq_of rfl rfl nm (Nice.lst (n := 0) fun x hx => nomatch hx) more.isEmpty ?_ (p := ⟨_, rfl, ?_⟩)
  · cases more <;> simp [D.py, D.pys, PyData.eqv, PyData.eqvAll]
  match more, okm, lm with
  | [], _, _ =>
    rw [if_neg (by decide)]
    rw [if_neg (by decide)]
    exact nx _ _
  | [h], okm, _ =>
    rw [if_pos (by rfl)]
    obtain ⟨oh, hn⟩ := okm h List.mem_cons_self
    refine var_at (g := .d (mdD ps hs)) rfl rfl ⟨_, rfl, _, _, _, rfl, md_ties, len_seq ⟨_, rfl⟩ ⟨_, _, rfl, rfl, _, rfl, ?_⟩⟩
    rw [List.length_map]
    by_cases c : (hs.length : Int) < 12
    · rw [decide_eq_true c, if_pos rfl]
      refine var_at (g := .d (mdD ps hs)) rfl rfl ⟨_, rfl, _, _, _, rfl, md_dots, _, rfl, ?_⟩
      refine var_at (g := .d (mdD ps hs)) rfl rfl ⟨_, rfl, _, _, _, rfl, md_ties, var_at rfl rfl ⟨_, _, rfl, rfl, small (by simp; omega), ?_⟩⟩
      have hf : OkHs ps (hs ++ [h]) := ⟨by simp, by simp; omega, fun y hy => by
        rcases List.mem_append.mp hy with z | z
        · exact okh.ok y z
        · rw [List.mem_singleton.mp z]; exact oh, by
        rw [List.nodup_append]
        refine ⟨okh.nd, by simp, fun y hy z hz e => hn ?_⟩
        rw [← List.mem_singleton.mp hz, ← e]
        exact hy⟩
      have q0 : (sortH (hs ++ [h])).Perm (hs ++ [h]) := List.mergeSort_perm _ _
      have hg : OkHs ps (sortH (hs ++ [h])) := OkHs.perm (ps := ps) hf (.refl _) q0
      rw [← List.map_append]
      refine sorted_hDs (ps := ps) (hs := hs ++ [h]) ⟨_, rfl⟩ ok.nm hf.ok ⟨_, rfl, _, rfl, ?_⟩
      refine var_at rfl rfl (var_at rfl rfl ⟨_, rfl, _, _, rfl, by decide +kernel, var_at rfl rfl ⟨false, _, 0, _, rfl, rfl, atI_nat (j := 0) rfl, ps, hs, h, rfl, ok, okh, oh, hn, by omega, ?_⟩⟩)
      rw [md.n]
      refine ⟨ps, _, rfl, ok, hg, true, rfl, ?_⟩
      rw [if_neg (by decide)]
      refine var_at (g := .d (mdD ps hs)) rfl rfl (var_at rfl rfl ⟨ps, hs, rfl, ok, okh, true, rfl, ?_⟩)
      rw [if_neg (by decide)]
      exact nx9 _ _ _
    · rw [decide_eq_false c, if_neg (by decide)]
      exact nx _ _
theorem nos_md (ps : List Str) (hs : List (Str × Str)) : D.nos .dic [.lst (ps.map D.str), .lst (hs.map hD)] = true := by
  simp only [D.nos, D.no, Bool.and_true, Bool.true_and, Bool.and_eq_true]
  refine ⟨nos_strs _ _, ?_⟩
  rw [D.nos_eq, List.all_map]
  exact List.all_eq_true.mpr fun x _ => no_tupS _ _
theorem r_law_tail {ns : List Int} (hl : ns.length ≤ 1000000) : m_law K C S__law_mixed S__law_model S__law_pairs S__law_take (S__law_web C) (S__law_right C) (S_with_handing C)
    { nx := fun _ => False, rt := fun z => z = .d (.bl true) } ([some (.scr ns), some .drw] ++ List.replicate 12 none) := by
  rw [law_split]
  dsimp only [mRet, mSeq, mIf, mSet, mSetO, mCB, mACons, mANil, mOp, mC, mCall, mDrop, mTst, mTru, mNot, mAnd, mOr, mAndV, mOrV, mNotV, mIfE, mLst, mTup, mLCons, mLNil, mDat, mNext, mChain, mIsi, mIsi2, mLc, mLc2, mWalk, mWalkD, mWalkS, mRng1, mRng2, mgN, mgT, mgCons, mgNil, mAsg, mFld, mProp, mMeth, mLenSet, mSortLR, mDGet, mDisp, mApp, mExt, mFor, mRetO, mPar2, mSto, mCallR, mFldS, mNever, mYes, mLenScr, mAs, mDrI, mDrS, mCells, mWalkScr, mDrPop, mAppPop, mSl, mOSome, mONone, mRev, mJoin, mFrz, mCallO, mSetCD, mDGetO, mDPutO, mFrzD, mAsgPop, mCallF, mSetF, mPar2F, mAppF, mAppF1, mBest, mIsi2V, mRng3, mReprL, mIndex, mAppT]
  refine ⟨ns, rfl, _, _, rfl, _, rfl, ?_, ?_, ?_⟩
  · split <;> omega
  · split <;> omega
  unfold rngD
  refine for_list (fun k : Nat => D.int (0 + (k : Int))) (fun rest ρ => ∃ x2 x3 x4 x5 x6 x7 x8 x9, (∀ ks xs, x4 ≠ some (.odc ks xs)) ∧ (∀ ks xs, x5 ≠ some (.odc ks xs)) ∧ (∀ ks xs, x6 ≠ some (.odc ks xs)) ∧ (∀ ks xs, x7 ≠ some (.odc ks xs)) ∧ (∀ ks xs, x8 ≠ some (.odc ks xs)) ∧ (∀ ks xs, x9 ≠ some (.odc ks xs)) ∧
    ρ = [some (.scr ns), some .drw, x2, x3, x4, x5, x6, x7, x8, x9, none, none, none, none]) ?_ ?_ (List.range _) _ ⟨_, _, _, _, _, _, _, _, nofun, nofun, nofun, nofun, nofun, nofun, rfl⟩
  · rintro k rest ρ Nx ⟨x2, x3, x4, x5, x6, x7, x8, x9, n4, n5, n6, n7, n8, n9, rfl⟩ nx
    dsimp only [mRet, mSeq, mIf, mSet, mSetO, mCB, mACons, mANil, mOp, mC, mCall, mDrop, mTst, mTru, mNot, mAnd, mOr, mAndV, mOrV, mNotV, mIfE, mLst, mTup, mLCons, mLNil, mDat, mNext, mChain, mIsi, mIsi2, mLc, mLc2, mWalk, mWalkD, mWalkS, mRng1, mRng2, mgN, mgT, mgCons, mgNil, mAsg, mFld, mProp, mMeth, mLenSet, mSortLR, mDGet, mDisp, mApp, mExt, mFor, mRetO, mPar2, mSto, mCallR, mFldS, mNever, mYes, mLenScr, mAs, mDrI, mDrS, mCells, mWalkScr, mDrPop, mAppPop, mSl, mOSome, mONone, mRev, mJoin, mFrz, mCallO, mSetCD, mDGetO, mDPutO, mFrzD, mAsgPop, mCallF, mSetF, mPar2F, mAppF, mAppF1, mBest, mIsi2V, mRng3, mReprL, mIndex, mAppT]
    refine var_at rfl rfl ⟨by simp [Z.no, D.no], 6, 12, rfl, by decide, by decide, by decide, by decide, fun ps hs md _ _ => ⟨_, _, rfl, nos_md ps hs, ?_⟩⟩
    have ok := md.ok
    have okh := md.okh
    have h12 := okh.twelve
    refine var_at rfl rfl ⟨3, rfl, by decide, by decide, fun r r0 r3 => ?_⟩
    refine fEq_of rfl rfl (Nice.int (by omega)) (Nice.int (by decide)) (decide (r = 0)) (eqv_int _ _) (p := ⟨_, rfl, ?_⟩)
    by_cases c : r = 0
    · rw [decide_eq_true c, if_pos (by decide)]
      refine var_at rfl rfl ⟨_, _, _, rfl, md_dots, _, _, rfl, .inr rfl, by rw [List.length_map]; have := ok.six; omega, fun x hx => ?_, fun ys perm => ?_⟩
      · obtain ⟨y, hy, rfl⟩ := List.mem_map.mp hx
        exact (ok.nm y hy).nice.mono (by decide)
      obtain ⟨row, rfl, pm⟩ := perm_map_of perm _ rfl
      have rl := pm.length_eq
      have l2 := ok.two
      have l6 := ok.six
      refine ⟨_, rfl, ?_⟩
      refine var_at rfl rfl (len_seq ⟨_, rfl⟩ ⟨_, _, rfl, rfl, ?_⟩)
      rw [List.length_map]
      refine ⟨_, _, _, _, rfl, rngC_two (by omega) (by omega), ?_⟩
      unfold rngC
      refine lc_list (fun k : Nat => D.int (0 + (k : Int) * 2)) (fun _ => true) hD (fun k => (at_ row (2 * k), at_ row (2 * k + 1))) (List.range (row.length / 2)) [] (fun k hk Pt Pf q => ?_) (small (by rw [List.length_nil, List.length_range]; omega)) ?_
      · have hk := List.mem_range.mp hk
        dsimp only [mRet, mSeq, mIf, mSet, mSetO, mCB, mACons, mANil, mOp, mC, mCall, mDrop, mTst, mTru, mNot, mAnd, mOr, mAndV, mOrV, mNotV, mIfE, mLst, mTup, mLCons, mLNil, mDat, mNext, mChain, mIsi, mIsi2, mLc, mLc2, mWalk, mWalkD, mWalkS, mRng1, mRng2, mgN, mgT, mgCons, mgNil, mAsg, mFld, mProp, mMeth, mLenSet, mSortLR, mDGet, mDisp, mApp, mExt, mFor, mRetO, mPar2, mSto, mCallR, mFldS, mNever, mYes, mLenScr, mAs, mDrI, mDrS, mCells, mWalkScr, mDrPop, mAppPop, mSl, mOSome, mONone, mRev, mJoin, mFrz, mCallO, mSetCD, mDGetO, mDPutO, mFrzD, mAsgPop, mCallF, mSetF, mPar2F, mAppF, mAppF1, mBest, mIsi2V, mRng3, mReprL, mIndex, mAppT]
        rw [if_pos rfl] at q
        refine var_at rfl rfl (var_at rfl rfl ⟨false, _, _, _, rfl, rfl, (show atI (row.map D.str) (0 + (k : Int) * 2) = _ from by rw [show 0 + (k : Int) * 2 = ((2 * k : Nat) : Int) by omega]; exact atI_at (by omega)), _, rfl, ?_⟩)
        refine var_at rfl rfl (var_at rfl rfl (fAdd_int ⟨false, _, _, _, rfl, rfl, (show atI (row.map D.str) (0 + (k : Int) * 2 + 1) = _ from by rw [show 0 + (k : Int) * 2 + 1 = ((2 * k + 1 : Nat) : Int) by omega]; exact atI_at (by omega)), _, rfl, (by show 2 ≤ sizeLine; decide), _, rfl, q⟩))
      rw [filter_yes, List.nil_append, show ((List.range (row.length / 2)).map fun k => (at_ row (2 * k), at_ row (2 * k + 1))) = two2 row from rfl]
      have o2 := two_ok pm ok.nd
      have o3 := swap_ok o2
      have nd := two_nd pm ok.nd
      have t2 : (two2 row).length ≤ 3 := by unfold two2; rw [List.length_map, List.length_range]; omega
      have t3 : (swap2 (two2 row)).length ≤ 3 := by unfold swap2; rw [List.length_map]; exact t2
      refine ⟨_, rfl, ?_⟩
      refine var_at rfl rfl (var_at rfl rfl ⟨false, _, rfl, ?_⟩)
      refine lc_list hD (fun _ => true) hD (fun h => (h.2, h.1)) (two2 row) [] (fun h hh Pt Pf q => ?_) (small (by rw [List.length_nil]; omega)) ?_
      · dsimp only [mRet, mSeq, mIf, mSet, mSetO, mCB, mACons, mANil, mOp, mC, mCall, mDrop, mTst, mTru, mNot, mAnd, mOr, mAndV, mOrV, mNotV, mIfE, mLst, mTup, mLCons, mLNil, mDat, mNext, mChain, mIsi, mIsi2, mLc, mLc2, mWalk, mWalkD, mWalkS, mRng1, mRng2, mgN, mgT, mgCons, mgNil, mAsg, mFld, mProp, mMeth, mLenSet, mSortLR, mDGet, mDisp, mApp, mExt, mFor, mRetO, mPar2, mSto, mCallR, mFldS, mNever, mYes, mLenScr, mAs, mDrI, mDrS, mCells, mWalkScr, mDrPop, mAppPop, mSl, mOSome, mONone, mRev, mJoin, mFrz, mCallO, mSetCD, mDGetO, mDPutO, mFrzD, mAsgPop, mCallF, mSetF, mPar2F, mAppF, mAppF1, mBest, mIsi2V, mRng3, mReprL, mIndex, mAppT]
        rw [if_pos rfl] at q
        exact ⟨_, rfl, rfl, _, _, rfl, _, _, rfl, rfl, var_at rfl rfl ⟨_, rfl, var_at rfl rfl ⟨_, rfl, (by show 2 ≤ sizeLine; decide), _, rfl, q⟩⟩⟩
      rw [filter_yes, List.nil_append, show ((two2 row).map fun h => (h.2, h.1)) = swap2 (two2 row) from rfl]
      refine ⟨_, _, rfl, rfl, small (by rw [List.length_map, List.length_map]; omega), ?_⟩
      rw [← List.map_append]
      have okt : ∀ h ∈ two2 row ++ swap2 (two2 row), OkH ps h := fun h hh => by
        rcases List.mem_append.mp hh with z | z
        · exact o2 h z
        · exact o3 h z
      refine ⟨false, _, rfl, ?_⟩
      refine lc_list hD (fun h => decide (h ∉ hs)) hD id (two2 row ++ swap2 (two2 row)) [] (fun h hh Pt Pf q => ?_) (small (by rw [List.length_nil, List.length_append]; omega)) ?_
      · dsimp only [mRet, mSeq, mIf, mSet, mSetO, mCB, mACons, mANil, mOp, mC, mCall, mDrop, mTst, mTru, mNot, mAnd, mOr, mAndV, mOrV, mNotV, mIfE, mLst, mTup, mLCons, mLNil, mDat, mNext, mChain, mIsi, mIsi2, mLc, mLc2, mWalk, mWalkD, mWalkS, mRng1, mRng2, mgN, mgT, mgCons, mgNil, mAsg, mFld, mProp, mMeth, mLenSet, mSortLR, mDGet, mDisp, mApp, mExt, mFor, mRetO, mPar2, mSto, mCallR, mFldS, mNever, mYes, mLenScr, mAs, mDrI, mDrS, mCells, mWalkScr, mDrPop, mAppPop, mSl, mOSome, mONone, mRev, mJoin, mFrz, mCallO, mSetCD, mDGetO, mDPutO, mFrzD, mAsgPop, mCallF, mSetF, mPar2F, mAppF, mAppF1, mBest, mIsi2V, mRng3, mReprL, mIndex, mAppT]
        refine var_at rfl rfl ⟨_, _, _, rfl, md_ties, in_hDs ok (okt h hh) okh.ok ⟨_, rfl⟩ (decide (h ∈ hs)) rfl true ⟨_, rfl, ?_⟩⟩
        by_cases c : h ∈ hs
        · rw [if_neg (by simpa using c)] at q
          rw [decide_eq_true c]
          exact q
        · rw [if_pos (by simpa using c)] at q
          rw [decide_eq_false c]
          exact var_at rfl rfl ⟨_, rfl, q⟩
      rw [List.map_id, List.nil_append]
      have lf := List.length_filter_le (fun h => decide (h ∉ hs)) (two2 row ++ swap2 (two2 row))
      rw [List.length_append] at lf
      generalize hX : (two2 row ++ swap2 (two2 row)).filter (fun h => decide (h ∉ hs)) = X at *
      have okX : ∀ h ∈ X, OkH ps h ∧ h ∉ hs := fun h hh => by
        rw [← hX] at hh
        obtain ⟨q1, q2⟩ := List.mem_filter.mp hh
        exact ⟨okt h q1, by simpa using q2⟩
      have ndX : (X ++ hs).Nodup := by
        refine List.nodup_append.mpr ⟨by rw [← hX]; exact List.Pairwise.filter _ nd, okh.nd, fun x hx y hy e => ?_⟩
        exact (okX x hx).2 (by rw [e]; exact hy)
      refine ⟨_, rfl, ?_⟩
      refine var_at rfl rfl ⟨_, _, _, rfl, md_ties, ⟨_, _, rfl, rfl, small (by rw [List.length_map, List.length_map]; omega), ?_⟩⟩
      refine ⟨_, rfl, _, rfl, ?_⟩
      rw [show ∀ xs : List D, cutD xs none (some 12) = xs.take 12 from fun xs => cut_take (n := 12), ← List.map_append, ← List.map_take]
      have okY : OkHs ps ((X ++ hs).take 12) := ⟨by rw [List.length_take, List.length_append]; have := okh.one; omega, by rw [List.length_take]; omega, fun y hy => by
        rcases List.mem_append.mp (take_sub y hy) with z | z
        · exact (okX y z).1
        · exact okh.ok y z, List.Nodup.sublist (List.take_sublist _ _) ndX⟩
      have q0 : (sortH ((X ++ hs).take 12)).Perm ((X ++ hs).take 12) := List.mergeSort_perm _ _
      have md' : MdOk ps (sortH ((X ++ hs).take 12)) := ⟨ok, OkHs.perm (ps := ps) okY (.refl _) q0, md.sp, linH.sorted _⟩
      refine sorted_hDs (ps := ps) (hs := (X ++ hs).take 12) ⟨_, rfl⟩ ok.nm okY.ok ⟨_, rfl, _, _, rfl, ?_, by decide, ?_⟩
      · intro j ks xs hj e
        match j, hj, e with
        | 0, _, e => cases e
        | 1, _, e => cases e
        | 2, _, e => cases e
        | 4, _, e => cases e
        | 5, _, e => cases e
        | 6, _, e => cases e
        | 7, _, e => exact n7 _ _ (Option.some.inj e)
        | 8, _, e => exact n8 _ _ (Option.some.inj e)
        | 9, _, e => exact n9 _ _ (Option.some.inj e)
        | 10, _, e => cases e
        | 11, _, e => cases e
        | 12, _, e => cases e
        | 13, _, e => cases e
        | j + 14, _, e => simp at e
      have pt := put_ties (a := .lst (ps.map D.str)) (b := .lst (hs.map hD)) (y := .lst ((sortH ((X ++ hs).take 12)).map hD))
      have p1 : putKs ([Sum.inr ("dots" : Str), Sum.inr ("ties" : Str)] : List Key) (Sum.inr ("ties" : Str)) = ksM := pt.1
      have p2 : putXs ([Sum.inr ("dots" : Str), Sum.inr ("ties" : Str)] : List Key) [.lst (ps.map D.str), .lst (hs.map hD)] (Sum.inr ("ties" : Str)) (.lst ((sortH ((X ++ hs).take 12)).map hD)) = [.lst (ps.map D.str), .lst ((sortH ((X ++ hs).take 12)).map hD)] := pt.2
      rw [p1, p2]
      exact r_rest md' nofun nofun nofun nofun nofun n7 n8 n9 (fun _ _ => nx _ ⟨_, _, _, _, _, _, _, _, (by exact nofun), (by exact nofun), (by exact nofun), (by exact nofun), (by exact nofun), n9, rfl⟩) (fun _ _ _ => nx _ ⟨_, _, _, _, _, _, _, _, (by exact nofun), (by exact nofun), (by exact nofun), (by exact nofun), (by exact nofun), (by exact nofun), rfl⟩)
    · rw [decide_eq_false c, if_neg (by decide)]
      exact r_rest md nofun nofun n4 n5 n6 n7 n8 n9 (fun _ _ => nx _ ⟨_, _, _, _, _, _, _, _, n4, n5, n6, (by exact nofun), (by exact nofun), n9, rfl⟩) (fun _ _ _ => nx _ ⟨_, _, _, _, _, _, _, _, n4, n5, n6, (by exact nofun), (by exact nofun), (by exact nofun), rfl⟩)
  · rintro ρ ⟨_, _, _, _, _, _, _, _, _, _, _, _, _, _, rfl⟩
    rfl
end
end GL
end
section
set_option linter.all false
set_option maxRecDepth 100000
set_option maxHeartbeats 4000000
namespace GL
open PySem L2 PySem.Calls PySem.W PyProof.Rows
variable [TabCx]
section
variable {P : Program} {w : World} {K : PySem.W.Frag} {mg : Str → Option Value} {base : Heap} {C : Addr}
theorem law_ok {x qual : Str} {f fb : Addr} {fd fdb : FuncData} (F : Fun K x qual st_law f fd) (Fb : FnOk P w K mg base CX0 2 fb fdb ["_law_script"] (GBeg K)) (hmb : mg "_law_begin" = some (.ref fb)) (hkb : PySem.W.keepIn K (.ref fb) = true) (hbb : Binds K fdb ["_law_script"] [])
    (hd : ∀ (cdv : Value) (A : Around) (outer : List PySem.Env) (s : Shared) (H : Hp), Room 9 (A.deeper (envOfC qual (defScope st_law) s.heap.objs.size f cdv)) → A.guards = some [] →
      ∃ t, GSs (cxOf CX0 P w K mg base N_law qual (defScope st_law) f cdv A outer s H E0).nox (defBody st_law).tail t (m_law K C S__law_mixed S__law_model S__law_pairs S__law_take (S__law_web C) (S__law_right C) (S_with_handing C))) :
    FnG P w K mg base 10 f fd ["_law_script"] (GLaw K) := by
  refine fng_of F sc_law (fun vs H Q E ⟨p, ns, ev, _⟩ => by subst ev; rfl) fun cdv A outer s H vs Q hr gu ⟨p, ns, ev, hl, sq, tabs, k⟩ => ?_
  subst ev
  obtain ⟨v, hv⟩ := hd cdv A outer s H hr gu
  have p1 : PS (cxOf CX0 P w K mg base N_law qual (defScope st_law) f cdv A outer s H E0).nox ((defBody st_law).headD (.Pass ⟨0, 0, 0, 0⟩)) (tAsg (tCall (GBeg K) [] E0 (tCons (tVar 0) tNil)) (gName 1)) :=
    ps_set sc_law.nd rfl (by first | exact Or.inl rfl | exact Or.inr rfl) (pe_call Fb (hr.mono (by decide)) rfl hmb hkb hbb .nil pass0 (pa_cons (gv 0).pe pa_nil))
  have eb : defBody st_law = (defBody st_law).headD (.Pass ⟨0, 0, 0, 0⟩) :: (defBody st_law).tail := rfl
  refine ⟨_, by rw [eb]; exact pss_cons p1 hv.ps, ?_⟩
  have B : Bas none (hide none H) H := ⟨fun b u h => (hide_some h).1, (fun _ h => nomatch h), fun t ht => (tabs t ht).1, fun b u h => (hide_some h).2⟩
  have op : Out none p := ⟨(fun _ h => nomatch h), fun t ht => (tabs t ht).2⟩
  have sq' : ∀ H', Same (hide none H) H' → SqL K H' p (ns.map V.int) := fun H' e => by
    rcases sq with (h | ⟨o, h⟩) | h
    · exact .inl (.inl (e _ _ (hide_mk h op)))
    · exact .inl (.inr ⟨o, e _ _ (hide_mk h op)⟩)
    · exact .inr h
  refine ⟨_, rfl, hide none H, p, ns, rfl, B, sq', hl, fun y H0' H' B' e0 => ?_⟩
  have R : Rs K (some y) H' H0' H' ((L2.start N_law [.ref p]).set 1 (some (.ref y.a))) ([some (.scr ns), some .drw] ++ List.replicate 12 none) := by
    refine ⟨rfl, fun i g e => ?_, fun i j q xs ys _ e => ?_, fun a => a.elim, fun _ a => a.elim⟩
    · match i with
      | 0 => cases e; exact ⟨_, rfl, .scr fun H'' q => sq' H'' (e0.trans q)⟩
      | 1 => cases e; exact ⟨_, rfl, .drw rfl⟩
      | i + 2 =>
        rw [List.getElem?_append_right (by simp), List.getElem?_replicate] at e
        split at e <;> cases e
    · match i with
      | 0 => cases e
      | 1 => cases e
      | i + 2 =>
        rw [List.getElem?_append_right (by simp), List.getElem?_replicate] at e
        split at e <;> cases e
  refine hv.sn (some y) H0' H' _ _ H0' H' { nx := fun _ => False, rt := fun z => z = .d (.bl true) } _ B' .refl R ⟨fun _ _ _ _ _ _ _ q => q.elim, fun v z A0 A1 B1 S1 zv e => ?_, fun _ _ _ _ _ _ _ q => q.elim, fun _ _ _ _ _ _ _ q => q.elim, fun _ => B'.ex⟩ (r_law_tail hl)
  subst e
  cases zv with
  | d d1 => cases d1; exact k _
end
end GL
end
section
set_option linter.all false
set_option maxRecDepth 100000
set_option maxHeartbeats 0
namespace GH
open PySem PySem.Spec PySem.Calls PyProof.Rows L2 GL
abbrev tq : Str := "shorter_first.<locals>.<lambda>"
abbrev PT (K : PySem.W.Frag) : Addr := (He.cT K ("shorter_first", none)).2
abbrev CT (K : PySem.W.Frag) : Addr := (He.cT K ("shorter_first", none)).1
@[reducible] def tcx (K : PySem.W.Frag) : TabCx := ⟨[(PT K, tq)]⟩
theorem asm {w : World} {K : PySem.W.Frag} {h : Heap} {mg : Str → Option Value} {fl : Addr} (KX : K.In h) (G : h.Ns mainGlobals mg) (c : He.SaysX fa fn [] tf ex w h K) (cg : [fnA K (gtr K "Web" "parties"), fnA K (gtr K "Web" "handings")] = gvs) (hfa : mg "law" = some (.ref fl)) : LawG lawO w 10 63 "_law_script" mg fl h := by
  letI : TabCx := tcx K
  have ee : (propB K "Web" "parties" "Web.parties" && propB K "Web" "handings" "Web.handings" && clsB K "Web") = true := c.more
  obtain ⟨ee2, e3⟩ := He.ba ee
  obtain ⟨ee1, e2⟩ := He.ba ee2
  have e1 := ee1
  obtain ⟨PO_parties, ok_parties⟩ := propOf e1
  obtain ⟨PO_handings, ok_handings⟩ := propOf e2
  have cg_parties : fnA K (gtr K "Web" "parties") = gval st_W_parties "parties" "Web.parties" := (List.cons.inj cg).1
  obtain ⟨fd_W_parties, F_W_parties⟩ := funA (st := st_W_parties) cg_parties ok_parties
  have cg_handings : fnA K (gtr K "Web" "handings") = gval st_W_handings "handings" "Web.handings" := (List.cons.inj (List.cons.inj cg).2).1
  obtain ⟨fd_W_handings, F_W_handings⟩ := funA (st := st_W_handings) cg_handings ok_handings
  have T : Txt K mg (He.ga K "Web") := ⟨He.free_ok KX G (c.t.d.fact 30 (f := .free "abs") rfl), He.free_ok KX G (c.t.d.fact 31 (f := .free "all") rfl), He.free_ok KX G (c.t.d.fact 32 (f := .free "any") rfl), He.free_ok KX G (c.t.d.fact 33 (f := .free "int") rfl), He.free_ok KX G (c.t.d.fact 34 (f := .free "isinstance") rfl), He.free_ok KX G (c.t.d.fact 35 (f := .free "len") rfl), He.free_ok KX G (c.t.d.fact 36 (f := .free "list") rfl), He.free_ok KX G (c.t.d.fact 37 (f := .free "max") rfl), He.free_ok KX G (c.t.d.fact 38 (f := .free "min") rfl), He.free_ok KX G (c.t.d.fact 39 (f := .free "range") rfl), He.free_ok KX G (c.t.d.fact 40 (f := .free "repr") rfl), He.free_ok KX G (c.t.d.fact 41 (f := .free "set") rfl), He.free_ok KX G (c.t.d.fact 42 (f := .free "sorted") rfl), He.free_ok KX G (c.t.d.fact 43 (f := .free "str") rfl), He.free_ok KX G (c.t.d.fact 44 (f := .free "tuple") rfl), He.str_ok KX G (c.t.d.fact 45 (f := .str "LETTERS" "abcdefghijklmnopqrstuvwxyz") rfl), He.cls_ok (c.t.d.fact 46 (f := .cls "Web") rfl), He.noat_ok (c.t.d.fact 48 (f := .noat "Web" "_handings") rfl), He.noat_ok (c.t.d.fact 49 (f := .noat "Web" "_parties") rfl), He.glo_ok KX G (c.t.d.fact 29 (f := .glo "Web") rfl)⟩
  have CF : ClsFacts K (He.ga K "Web") := clsFacts T.cl e3
  have MW : Mk K (He.ga K "Web") (He.ma K (He.ga K "Web") "__init__") := He.mkr_ok (c.t.d.fact 47 (f := .mkr "Web") rfl)
  have MM_outs : Meth K (He.ga K "Web") "outs" (He.ma K (He.ga K "Web") "outs") := He.meth_ok (c.t.d.fact 50 (f := .meth "Web" "outs") rfl)
  have MM_with_handing : Meth K (He.ga K "Web") "with_handing" (He.ma K (He.ga K "Web") "with_handing") := He.meth_ok (c.t.d.fact 51 (f := .meth "Web" "with_handing") rfl)
  obtain ⟨fd__law_begin, F0__law_begin⟩ := c.t.d.def_ 0 (d := D__law_begin) rfl
  have F__law_begin : FnP K "_law_begin" "_law_begin" st__law_begin (He.ga K "_law_begin") fd__law_begin := F0__law_begin
  have B__law_begin : L2.Binds K fd__law_begin ["_law_script"] [] := FunD.bindsN F__law_begin fun _ _ _ _ _ _ us hl => match us, hl with | [_], _ => rfl
  have g__law_begin : mg "_law_begin" = some (.ref (He.ga K "_law_begin")) := He.glo_ok KX G (c.t.d.fact 0 (f := .glo "_law_begin") rfl)
  obtain ⟨fd__law_blend, F0__law_blend⟩ := c.t.d.def_ 1 (d := D__law_blend) rfl
  have F__law_blend : FnP K "_law_blend" "_law_blend" st__law_blend (He.ga K "_law_blend") fd__law_blend := F0__law_blend
  have B__law_blend : L2.Binds K fd__law_blend ["_law_draw"] [] := FunD.bindsN F__law_blend fun _ _ _ _ _ _ us hl => match us, hl with | [_], _ => rfl
  have g__law_blend : mg "_law_blend" = some (.ref (He.ga K "_law_blend")) := He.glo_ok KX G (c.t.d.fact 1 (f := .glo "_law_blend") rfl)
  obtain ⟨fd__law_take, F0__law_take⟩ := c.t.d.def_ 2 (d := D__law_take) rfl
  have F__law_take : FnP K "_law_take" "_law_take" st__law_take (He.ga K "_law_take") fd__law_take := F0__law_take
  have B__law_take : L2.Binds K fd__law_take ["_law_draw", "_law_size"] [] := FunD.bindsN F__law_take fun _ _ _ _ _ _ us hl => match us, hl with | [_, _], _ => rfl
  have g__law_take : mg "_law_take" = some (.ref (He.ga K "_law_take")) := He.glo_ok KX G (c.t.d.fact 2 (f := .glo "_law_take") rfl)
  obtain ⟨fd__law_pick, F0__law_pick⟩ := c.t.d.def_ 3 (d := D__law_pick) rfl
  have F__law_pick : FnP K "_law_pick" "_law_pick" st__law_pick (He.ga K "_law_pick") fd__law_pick := F0__law_pick
  have B__law_pick : L2.Binds K fd__law_pick ["_law_draw", "_law_some"] [] := FunD.bindsN F__law_pick fun _ _ _ _ _ _ us hl => match us, hl with | [_, _], _ => rfl
  have g__law_pick : mg "_law_pick" = some (.ref (He.ga K "_law_pick")) := He.glo_ok KX G (c.t.d.fact 3 (f := .glo "_law_pick") rfl)
  obtain ⟨fd__law_names, F0__law_names⟩ := c.t.d.def_ 4 (d := D__law_names) rfl
  have F__law_names : FnP K "_law_names" "_law_names" st__law_names (He.ga K "_law_names") fd__law_names := F0__law_names
  have B__law_names : L2.Binds K fd__law_names ["_law_draw", "_law_size"] [] := FunD.bindsN F__law_names fun _ _ _ _ _ _ us hl => match us, hl with | [_, _], _ => rfl
  have g__law_names : mg "_law_names" = some (.ref (He.ga K "_law_names")) := He.glo_ok KX G (c.t.d.fact 4 (f := .glo "_law_names") rfl)
  obtain ⟨fd__law_mixed, F0__law_mixed⟩ := c.t.d.def_ 5 (d := D__law_mixed) rfl
  have F__law_mixed : FnP K "_law_mixed" "_law_mixed" st__law_mixed (He.ga K "_law_mixed") fd__law_mixed := F0__law_mixed
  have B__law_mixed : L2.Binds K fd__law_mixed ["_law_draw", "_law_some"] [] := FunD.bindsN F__law_mixed fun _ _ _ _ _ _ us hl => match us, hl with | [_, _], _ => rfl
  have g__law_mixed : mg "_law_mixed" = some (.ref (He.ga K "_law_mixed")) := He.glo_ok KX G (c.t.d.fact 5 (f := .glo "_law_mixed") rfl)
  obtain ⟨fd__law_pairs, F0__law_pairs⟩ := c.t.d.def_ 6 (d := D__law_pairs) rfl
  have F__law_pairs : FnP K "_law_pairs" "_law_pairs" st__law_pairs (He.ga K "_law_pairs") fd__law_pairs := F0__law_pairs
  have B__law_pairs : L2.Binds K fd__law_pairs ["_law_some"] [] := FunD.bindsN F__law_pairs fun _ _ _ _ _ _ us hl => match us, hl with | [_], _ => rfl
  have g__law_pairs : mg "_law_pairs" = some (.ref (He.ga K "_law_pairs")) := He.glo_ok KX G (c.t.d.fact 6 (f := .glo "_law_pairs") rfl)
  obtain ⟨fd__law_model, F0__law_model⟩ := c.t.d.def_ 7 (d := D__law_model) rfl
  have F__law_model : FnP K "_law_model" "_law_model" st__law_model (He.ga K "_law_model") fd__law_model := F0__law_model
  have B__law_model : L2.Binds K fd__law_model ["_law_draw", "_law_most_here", "_law_many"] [] := FunD.bindsN F__law_model fun _ _ _ _ _ _ us hl => match us, hl with | [_, _, _], _ => rfl
  have g__law_model : mg "_law_model" = some (.ref (He.ga K "_law_model")) := He.glo_ok KX G (c.t.d.fact 7 (f := .glo "_law_model") rfl)
  obtain ⟨fd_is_list, F0_is_list⟩ := c.t.d.def_ 8 (d := D_is_list) rfl
  have F_is_list : FnP K "is_list" "is_list" st_is_list (He.ga K "is_list") fd_is_list := F0_is_list
  have B_is_list : L2.Binds K fd_is_list ["value"] [] := FunD.bindsN F_is_list fun _ _ _ _ _ _ us hl => match us, hl with | [_], _ => rfl
  have g_is_list : mg "is_list" = some (.ref (He.ga K "is_list")) := He.glo_ok KX G (c.t.d.fact 8 (f := .glo "is_list") rfl)
  obtain ⟨fd_is_name, F0_is_name⟩ := c.t.d.def_ 9 (d := D_is_name) rfl
  have F_is_name : FnP K "is_name" "is_name" st_is_name (He.ga K "is_name") fd_is_name := F0_is_name
  have B_is_name : L2.Binds K fd_is_name ["value"] [] := FunD.bindsN F_is_name fun _ _ _ _ _ _ us hl => match us, hl with | [_], _ => rfl
  have g_is_name : mg "is_name" = some (.ref (He.ga K "is_name")) := He.glo_ok KX G (c.t.d.fact 9 (f := .glo "is_name") rfl)
  obtain ⟨fd_are_parties, F0_are_parties⟩ := c.t.d.def_ 10 (d := D_are_parties) rfl
  have F_are_parties : FnP K "are_parties" "are_parties" st_are_parties (He.ga K "are_parties") fd_are_parties := F0_are_parties
  have B_are_parties : L2.Binds K fd_are_parties ["value"] [] := FunD.bindsN F_are_parties fun _ _ _ _ _ _ us hl => match us, hl with | [_], _ => rfl
  have g_are_parties : mg "are_parties" = some (.ref (He.ga K "are_parties")) := He.glo_ok KX G (c.t.d.fact 10 (f := .glo "are_parties") rfl)
  obtain ⟨fd_is_handing, F0_is_handing⟩ := c.t.d.def_ 11 (d := D_is_handing) rfl
  have F_is_handing : FnP K "is_handing" "is_handing" st_is_handing (He.ga K "is_handing") fd_is_handing := F0_is_handing
  have B_is_handing : L2.Binds K fd_is_handing ["value", "parties"] [] := FunD.bindsN F_is_handing fun _ _ _ _ _ _ us hl => match us, hl with | [_, _], _ => rfl
  have g_is_handing : mg "is_handing" = some (.ref (He.ga K "is_handing")) := He.glo_ok KX G (c.t.d.fact 11 (f := .glo "is_handing") rfl)
  obtain ⟨fd_are_handings, F0_are_handings⟩ := c.t.d.def_ 12 (d := D_are_handings) rfl
  have F_are_handings : FnP K "are_handings" "are_handings" st_are_handings (He.ga K "are_handings") fd_are_handings := F0_are_handings
  have B_are_handings : L2.Binds K fd_are_handings ["value", "parties"] [] := FunD.bindsN F_are_handings fun _ _ _ _ _ _ us hl => match us, hl with | [_, _], _ => rfl
  have g_are_handings : mg "are_handings" = some (.ref (He.ga K "are_handings")) := He.glo_ok KX G (c.t.d.fact 12 (f := .glo "are_handings") rfl)
  obtain ⟨fd_W___init__, F0_W___init__⟩ := c.t.d.def_ 13 (d := D_W___init__) rfl
  have F_W___init__ : FnP K "__init__" "Web.__init__" st_W___init__ (He.ma K (He.ga K "Web") "__init__") fd_W___init__ := F0_W___init__
  have B_W___init__ : L2.Binds K fd_W___init__ ["self", "parties", "handings"] [] := FunD.bindsN F_W___init__ fun _ _ _ _ _ _ us hl => match us, hl with | [_, _, _], _ => rfl
  obtain ⟨fd__law_web, F0__law_web⟩ := c.t.d.def_ 14 (d := D__law_web) rfl
  have F__law_web : FnP K "_law_web" "_law_web" st__law_web (He.ga K "_law_web") fd__law_web := F0__law_web
  have B__law_web : L2.Binds K fd__law_web ["_law_model_here"] [] := FunD.bindsN F__law_web fun _ _ _ _ _ _ us hl => match us, hl with | [_], _ => rfl
  have g__law_web : mg "_law_web" = some (.ref (He.ga K "_law_web")) := He.glo_ok KX G (c.t.d.fact 13 (f := .glo "_law_web") rfl)
  obtain ⟨fd__law_before, F0__law_before⟩ := c.t.d.def_ 15 (d := D__law_before) rfl
  have F__law_before : FnP K "_law_before" "_law_before" st__law_before (He.ga K "_law_before") fd__law_before := F0__law_before
  have B__law_before : L2.Binds K fd__law_before ["_law_model_here", "_law_dot"] [] := FunD.bindsN F__law_before fun _ _ _ _ _ _ us hl => match us, hl with | [_, _], _ => rfl
  have g__law_before : mg "_law_before" = some (.ref (He.ga K "_law_before")) := He.glo_ok KX G (c.t.d.fact 14 (f := .glo "_law_before") rfl)
  obtain ⟨fd__law_next, F0__law_next⟩ := c.t.d.def_ 16 (d := D__law_next) rfl
  have F__law_next : FnP K "_law_next" "_law_next" st__law_next (He.ga K "_law_next") fd__law_next := F0__law_next
  have B__law_next : L2.Binds K fd__law_next ["_law_model_here", "_law_dot"] [] := FunD.bindsN F__law_next fun _ _ _ _ _ _ us hl => match us, hl with | [_, _], _ => rfl
  have g__law_next : mg "_law_next" = some (.ref (He.ga K "_law_next")) := He.glo_ok KX G (c.t.d.fact 15 (f := .glo "_law_next") rfl)
  obtain ⟨fd__law_shorter, F0__law_shorter⟩ := c.t.d.def_ 17 (d := D__law_shorter) rfl
  have F__law_shorter : FnP K "_law_shorter" "_law_shorter" st__law_shorter (He.ga K "_law_shorter") fd__law_shorter := F0__law_shorter
  have B__law_shorter : L2.Binds K fd__law_shorter ["_law_some"] [] := FunD.bindsN F__law_shorter fun _ _ _ _ _ _ us hl => match us, hl with | [_], _ => rfl
  have g__law_shorter : mg "_law_shorter" = some (.ref (He.ga K "_law_shorter")) := He.glo_ok KX G (c.t.d.fact 16 (f := .glo "_law_shorter") rfl)
  obtain ⟨fd__law_ways, F0__law_ways⟩ := c.t.d.def_ 18 (d := D__law_ways) rfl
  have F__law_ways : FnP K "_law_ways" "_law_ways" st__law_ways (He.ga K "_law_ways") fd__law_ways := F0__law_ways
  have B__law_ways : L2.Binds K fd__law_ways ["_law_model_here", "_law_start", "_law_goal"] [] := FunD.bindsN F__law_ways fun _ _ _ _ _ _ us hl => match us, hl with | [_, _, _], _ => rfl
  have g__law_ways : mg "_law_ways" = some (.ref (He.ga K "_law_ways")) := He.glo_ok KX G (c.t.d.fact 17 (f := .glo "_law_ways") rfl)
  obtain ⟨fd__law_rings, F0__law_rings⟩ := c.t.d.def_ 19 (d := D__law_rings) rfl
  have F__law_rings : FnP K "_law_rings" "_law_rings" st__law_rings (He.ga K "_law_rings") fd__law_rings := F0__law_rings
  have B__law_rings : L2.Binds K fd__law_rings ["_law_model_here"] [] := FunD.bindsN F__law_rings fun _ _ _ _ _ _ us hl => match us, hl with | [_], _ => rfl
  have g__law_rings : mg "_law_rings" = some (.ref (He.ga K "_law_rings")) := He.glo_ok KX G (c.t.d.fact 18 (f := .glo "_law_rings") rfl)
  obtain ⟨fd_check_web, F0_check_web⟩ := c.t.d.def_ 20 (d := D_check_web) rfl
  have F_check_web : FnP K "check_web" "check_web" st_check_web (He.ga K "check_web") fd_check_web := F0_check_web
  have B_check_web : L2.Binds K fd_check_web ["web"] [] := FunD.bindsN F_check_web fun _ _ _ _ _ _ us hl => match us, hl with | [_], _ => rfl
  have g_check_web : mg "check_web" = some (.ref (He.ga K "check_web")) := He.glo_ok KX G (c.t.d.fact 19 (f := .glo "check_web") rfl)
  have B_W_parties : L2.Binds K fd_W_parties ["self"] [] := FunD.bindsN F_W_parties fun _ _ _ _ _ _ us hl => match us, hl with | [_], _ => rfl
  obtain ⟨fd_check_party, F0_check_party⟩ := c.t.d.def_ 21 (d := D_check_party) rfl
  have F_check_party : FnP K "check_party" "check_party" st_check_party (He.ga K "check_party") fd_check_party := F0_check_party
  have B_check_party : L2.Binds K fd_check_party ["web", "party"] [] := FunD.bindsN F_check_party fun _ _ _ _ _ _ us hl => match us, hl with | [_, _], _ => rfl
  have g_check_party : mg "check_party" = some (.ref (He.ga K "check_party")) := He.glo_ok KX G (c.t.d.fact 20 (f := .glo "check_party") rfl)
  obtain ⟨fd_W_outs, F0_W_outs⟩ := c.t.d.def_ 22 (d := D_W_outs) rfl
  have F_W_outs : FnP K "outs" "Web.outs" st_W_outs (He.ma K (He.ga K "Web") "outs") fd_W_outs := F0_W_outs
  have B_W_outs : L2.Binds K fd_W_outs ["self", "party"] [] := FunD.bindsN F_W_outs fun _ _ _ _ _ _ us hl => match us, hl with | [_, _], _ => rfl
  obtain ⟨fd_ways_from, F0_ways_from⟩ := c.t.d.def_ 23 (d := D_ways_from) rfl
  have F_ways_from : FnP K "ways_from" "ways_from" st_ways_from (He.ga K "ways_from") fd_ways_from := F0_ways_from
  have B_ways_from : L2.Binds K fd_ways_from ["web", "start"] [] := FunD.bindsN F_ways_from fun _ _ _ _ _ _ us hl => match us, hl with | [_, _], _ => rfl
  have g_ways_from : mg "ways_from" = some (.ref (He.ga K "ways_from")) := He.glo_ok KX G (c.t.d.fact 21 (f := .glo "ways_from") rfl)
  have B_W_handings : L2.Binds K fd_W_handings ["self"] [] := FunD.bindsN F_W_handings fun _ _ _ _ _ _ us hl => match us, hl with | [_], _ => rfl
  obtain ⟨fd_shorter_first, F0_shorter_first⟩ := c.t.d.def_ 24 (d := D_shorter_first) rfl
  have F_shorter_first : FnP K "shorter_first" "shorter_first" st_shorter_first (He.ga K "shorter_first") fd_shorter_first := F0_shorter_first
  have B_shorter_first : L2.Binds K fd_shorter_first ["rows"] [] := FunD.bindsN F_shorter_first fun _ _ _ _ _ _ us hl => match us, hl with | [_], _ => rfl
  have g_shorter_first : mg "shorter_first" = some (.ref (He.ga K "shorter_first")) := He.glo_ok KX G (c.t.d.fact 22 (f := .glo "shorter_first") rfl)
  obtain ⟨fd_rings, F0_rings⟩ := c.t.d.def_ 25 (d := D_rings) rfl
  have F_rings : FnP K "rings" "rings" st_rings (He.ga K "rings") fd_rings := F0_rings
  have B_rings : L2.Binds K fd_rings ["web"] [] := FunD.bindsN F_rings fun _ _ _ _ _ _ us hl => match us, hl with | [_], _ => rfl
  have g_rings : mg "rings" = some (.ref (He.ga K "rings")) := He.glo_ok KX G (c.t.d.fact 23 (f := .glo "rings") rfl)
  obtain ⟨fd_has_common, F0_has_common⟩ := c.t.d.def_ 26 (d := D_has_common) rfl
  have F_has_common : FnP K "has_common" "has_common" st_has_common (He.ga K "has_common") fd_has_common := F0_has_common
  have B_has_common : L2.Binds K fd_has_common ["lot", "other"] [] := FunD.bindsN F_has_common fun _ _ _ _ _ _ us hl => match us, hl with | [_, _], _ => rfl
  have g_has_common : mg "has_common" = some (.ref (He.ga K "has_common")) := He.glo_ok KX G (c.t.d.fact 24 (f := .glo "has_common") rfl)
  obtain ⟨fd_apart, F0_apart⟩ := c.t.d.def_ 27 (d := D_apart) rfl
  have F_apart : FnP K "apart" "apart" st_apart (He.ga K "apart") fd_apart := F0_apart
  have B_apart : L2.Binds K fd_apart ["web"] [] := FunD.bindsN F_apart fun _ _ _ _ _ _ us hl => match us, hl with | [_], _ => rfl
  have g_apart : mg "apart" = some (.ref (He.ga K "apart")) := He.glo_ok KX G (c.t.d.fact 25 (f := .glo "apart") rfl)
  obtain ⟨fd__law_most, F0__law_most⟩ := c.t.d.def_ 28 (d := D__law_most) rfl
  have F__law_most : FnP K "_law_most" "_law_most" st__law_most (He.ga K "_law_most") fd__law_most := F0__law_most
  have B__law_most : L2.Binds K fd__law_most ["_law_some"] [] := FunD.bindsN F__law_most fun _ _ _ _ _ _ us hl => match us, hl with | [_], _ => rfl
  have g__law_most : mg "_law_most" = some (.ref (He.ga K "_law_most")) := He.glo_ok KX G (c.t.d.fact 26 (f := .glo "_law_most") rfl)
  obtain ⟨fd__law_right, F0__law_right⟩ := c.t.d.def_ 29 (d := D__law_right) rfl
  have F__law_right : FnP K "_law_right" "_law_right" st__law_right (He.ga K "_law_right") fd__law_right := F0__law_right
  have B__law_right : L2.Binds K fd__law_right ["_law_model_here", "_law_made"] [] := FunD.bindsN F__law_right fun _ _ _ _ _ _ us hl => match us, hl with | [_, _], _ => rfl
  have g__law_right : mg "_law_right" = some (.ref (He.ga K "_law_right")) := He.glo_ok KX G (c.t.d.fact 27 (f := .glo "_law_right") rfl)
  obtain ⟨fd_W_with_handing, F0_W_with_handing⟩ := c.t.d.def_ 30 (d := D_W_with_handing) rfl
  have F_W_with_handing : FnP K "with_handing" "Web.with_handing" st_W_with_handing (He.ma K (He.ga K "Web") "with_handing") fd_W_with_handing := F0_W_with_handing
  have B_W_with_handing : L2.Binds K fd_W_with_handing ["self", "handing"] [] := FunD.bindsN F_W_with_handing fun _ _ _ _ _ _ us hl => match us, hl with | [_, _], _ => rfl
  obtain ⟨fd_law, F0_law⟩ := c.t.d.def_ 31 (d := D_law) rfl
  have F_law : FnP K "law" "law" st_law (He.ga K "law") fd_law := F0_law
  have B_law : L2.Binds K fd_law ["_law_script"] [] := FunD.bindsN F_law fun _ _ _ _ _ _ us hl => match us, hl with | [_], _ => rfl
  have g_law : mg "law" = some (.ref (He.ga K "law")) := He.glo_ok KX G (c.t.d.fact 28 (f := .glo "law") rfl)
  have hlaw : He.ga K "law" = fl := by
    have e := g_law.symm.trans hfa
    cases e
    rfl
  refine ⟨K, fd_law, [(CT K, PT K)], GLaw K, KX, fun t ht => ?_, fun t ht => ?_, fun t ht => ?_, fun s u => FunD.bindsA (ps := ["_law_script"]) F_law (fun _ _ _ _ _ _ us hl => match us, hl with | [_], _ => rfl) s [u] rfl, fun H a ns hl tabs sqq => ?_, fun base KB GB tb => ?_⟩
  · rw [List.mem_singleton.mp ht]; exact c.empty _ (List.mem_singleton.mpr rfl)
  · rw [List.mem_singleton.mp ht]; exact c.out _ (List.mem_singleton.mpr rfl)
  · rw [List.mem_singleton.mp ht]; exact PySem.W.codeHd_of_K KX (c.hd _ (List.mem_singleton.mpr rfl))
  · refine ⟨a, ns, rfl, by omega, sqq, fun t ht => ?_, fun _ => rfl⟩
    obtain ⟨q1, q2⟩ := tabs (CT K, PT K) (List.mem_singleton.mpr rfl)
    have et : t = (PT K, tq) := List.mem_singleton.mp ht
    rw [et]
    exact ⟨LamX.TabS.nil q1, q2⟩
  have O__law_begin : FnOk lawO.prog w K mg base CX0 2 (He.ga K "_law_begin") fd__law_begin ["_law_script"] (GBeg K) := begin_ok F__law_begin.dfl T
  have O__law_blend : FnOk lawO.prog w K mg base CX0 2 (He.ga K "_law_blend") fd__law_blend ["_law_draw"] (GSp S__law_blend) := gfn F__law_blend.dfl sc__law_blend (by intro zs P h; first | (rcases h with ⟨_, _, rfl, _⟩ | ⟨_, rfl, _⟩ <;> rfl) | (repeat' (first | (obtain ⟨rfl, _⟩ := h; rfl) | (obtain ⟨_, h⟩ := h)))) (fun cdv A outer s H E hr => d__law_blend T  hr) (fun zs P h => r__law_blend h)
  have BD__law_blend : Df lawO.prog w K mg base 2 "_law_blend" ["_law_draw"] S__law_blend := ⟨⟨fd__law_blend, O__law_blend, B__law_blend⟩, F__law_blend.kp, g__law_blend⟩
  have O__law_take : FnOk lawO.prog w K mg base CX0 3 (He.ga K "_law_take") fd__law_take ["_law_draw", "_law_size"] (GSp S__law_take) := gfn F__law_take.dfl sc__law_take (by intro zs P h; first | (rcases h with ⟨_, _, rfl, _⟩ | ⟨_, rfl, _⟩ <;> rfl) | (repeat' (first | (obtain ⟨rfl, _⟩ := h; rfl) | (obtain ⟨_, h⟩ := h)))) (fun cdv A outer s H E hr => d__law_take T BD__law_blend hr) (fun zs P h => r__law_take h)
  have BD__law_take : Df lawO.prog w K mg base 3 "_law_take" ["_law_draw", "_law_size"] S__law_take := ⟨⟨fd__law_take, O__law_take, B__law_take⟩, F__law_take.kp, g__law_take⟩
  have O__law_pick : FnOk lawO.prog w K mg base CX0 4 (He.ga K "_law_pick") fd__law_pick ["_law_draw", "_law_some"] (GSp S__law_pick) := gfn F__law_pick.dfl sc__law_pick (by intro zs P h; first | (rcases h with ⟨_, _, rfl, _⟩ | ⟨_, rfl, _⟩ <;> rfl) | (repeat' (first | (obtain ⟨rfl, _⟩ := h; rfl) | (obtain ⟨_, h⟩ := h)))) (fun cdv A outer s H E hr => d__law_pick T BD__law_take hr) (fun zs P h => r__law_pick h)
  have BD__law_pick : Df lawO.prog w K mg base 4 "_law_pick" ["_law_draw", "_law_some"] S__law_pick := ⟨⟨fd__law_pick, O__law_pick, B__law_pick⟩, F__law_pick.kp, g__law_pick⟩
  have O__law_names : FnOk lawO.prog w K mg base CX0 5 (He.ga K "_law_names") fd__law_names ["_law_draw", "_law_size"] (GSp S__law_names) := gfn F__law_names.dfl sc__law_names (by intro zs P h; first | (rcases h with ⟨_, _, rfl, _⟩ | ⟨_, rfl, _⟩ <;> rfl) | (repeat' (first | (obtain ⟨rfl, _⟩ := h; rfl) | (obtain ⟨_, h⟩ := h)))) (fun cdv A outer s H E hr => d__law_names T BD__law_pick BD__law_take hr) (fun zs P h => r__law_names h)
  have BD__law_names : Df lawO.prog w K mg base 5 "_law_names" ["_law_draw", "_law_size"] S__law_names := ⟨⟨fd__law_names, O__law_names, B__law_names⟩, F__law_names.kp, g__law_names⟩
  have O__law_mixed : FnOk lawO.prog w K mg base CX0 4 (He.ga K "_law_mixed") fd__law_mixed ["_law_draw", "_law_some"] (GSp S__law_mixed) := gfn F__law_mixed.dfl sc__law_mixed (by intro zs P h; first | (rcases h with ⟨_, _, rfl, _⟩ | ⟨_, rfl, _⟩ <;> rfl) | (repeat' (first | (obtain ⟨rfl, _⟩ := h; rfl) | (obtain ⟨_, h⟩ := h)))) (fun cdv A outer s H E hr => d__law_mixed T BD__law_take hr) (fun zs P h => r__law_mixed h)
  have BD__law_mixed : Df lawO.prog w K mg base 4 "_law_mixed" ["_law_draw", "_law_some"] S__law_mixed := ⟨⟨fd__law_mixed, O__law_mixed, B__law_mixed⟩, F__law_mixed.kp, g__law_mixed⟩
  have O__law_pairs : FnOk lawO.prog w K mg base CX0 2 (He.ga K "_law_pairs") fd__law_pairs ["_law_some"] (GSp S__law_pairs) := gfn F__law_pairs.dfl sc__law_pairs (by intro zs P h; first | (rcases h with ⟨_, _, rfl, _⟩ | ⟨_, rfl, _⟩ <;> rfl) | (repeat' (first | (obtain ⟨rfl, _⟩ := h; rfl) | (obtain ⟨_, h⟩ := h)))) (fun cdv A outer s H E hr => d__law_pairs T  hr) (fun zs P h => r__law_pairs h)
  have BD__law_pairs : Df lawO.prog w K mg base 2 "_law_pairs" ["_law_some"] S__law_pairs := ⟨⟨fd__law_pairs, O__law_pairs, B__law_pairs⟩, F__law_pairs.kp, g__law_pairs⟩
  have O__law_model : FnOk lawO.prog w K mg base CX0 6 (He.ga K "_law_model") fd__law_model ["_law_draw", "_law_most_here", "_law_many"] (GSp S__law_model) := gfn F__law_model.dfl sc__law_model (by intro zs P h; first | (rcases h with ⟨_, _, rfl, _⟩ | ⟨_, rfl, _⟩ <;> rfl) | (repeat' (first | (obtain ⟨rfl, _⟩ := h; rfl) | (obtain ⟨_, h⟩ := h)))) (fun cdv A outer s H E hr => d__law_model T BD__law_mixed BD__law_names BD__law_pairs BD__law_pick BD__law_take hr) (fun zs P h => r__law_model h)
  have BD__law_model : Df lawO.prog w K mg base 6 "_law_model" ["_law_draw", "_law_most_here", "_law_many"] S__law_model := ⟨⟨fd__law_model, O__law_model, B__law_model⟩, F__law_model.kp, g__law_model⟩
  have O_is_list : FnOk lawO.prog w K mg base CX0 2 (He.ga K "is_list") fd_is_list ["value"] (GSp S_is_list) := gfn F_is_list.dfl sc_is_list (by intro zs P h; first | (rcases h with ⟨_, _, rfl, _⟩ | ⟨_, rfl, _⟩ <;> rfl) | (repeat' (first | (obtain ⟨rfl, _⟩ := h; rfl) | (obtain ⟨_, h⟩ := h)))) (fun cdv A outer s H E hr => d_is_list T  hr) (fun zs P h => r_is_list h)
  have BD_is_list : Df lawO.prog w K mg base 2 "is_list" ["value"] S_is_list := ⟨⟨fd_is_list, O_is_list, B_is_list⟩, F_is_list.kp, g_is_list⟩
  have O_is_name : FnOk lawO.prog w K mg base CX0 2 (He.ga K "is_name") fd_is_name ["value"] (GSp S_is_name) := gfn F_is_name.dfl sc_is_name (by intro zs P h; first | (rcases h with ⟨_, _, rfl, _⟩ | ⟨_, rfl, _⟩ <;> rfl) | (repeat' (first | (obtain ⟨rfl, _⟩ := h; rfl) | (obtain ⟨_, h⟩ := h)))) (fun cdv A outer s H E hr => d_is_name T  hr) (fun zs P h => r_is_name h)
  have BD_is_name : Df lawO.prog w K mg base 2 "is_name" ["value"] S_is_name := ⟨⟨fd_is_name, O_is_name, B_is_name⟩, F_is_name.kp, g_is_name⟩
  have O_are_parties : FnOk lawO.prog w K mg base CX0 3 (He.ga K "are_parties") fd_are_parties ["value"] (GSp S_are_parties) := gfn F_are_parties.dfl sc_are_parties (by intro zs P h; first | (rcases h with ⟨_, _, rfl, _⟩ | ⟨_, rfl, _⟩ <;> rfl) | (repeat' (first | (obtain ⟨rfl, _⟩ := h; rfl) | (obtain ⟨_, h⟩ := h)))) (fun cdv A outer s H E hr => d_are_parties T BD_is_list BD_is_name hr) (fun zs P h => r_are_parties h)
  have BD_are_parties : Df lawO.prog w K mg base 3 "are_parties" ["value"] S_are_parties := ⟨⟨fd_are_parties, O_are_parties, B_are_parties⟩, F_are_parties.kp, g_are_parties⟩
  have O_is_handing : FnOk lawO.prog w K mg base CX0 2 (He.ga K "is_handing") fd_is_handing ["value", "parties"] (GSp S_is_handing) := gfn F_is_handing.dfl sc_is_handing (by intro zs P h; first | (rcases h with ⟨_, _, rfl, _⟩ | ⟨_, rfl, _⟩ <;> rfl) | (repeat' (first | (obtain ⟨rfl, _⟩ := h; rfl) | (obtain ⟨_, h⟩ := h)))) (fun cdv A outer s H E hr => d_is_handing T  hr) (fun zs P h => r_is_handing h)
  have BD_is_handing : Df lawO.prog w K mg base 2 "is_handing" ["value", "parties"] S_is_handing := ⟨⟨fd_is_handing, O_is_handing, B_is_handing⟩, F_is_handing.kp, g_is_handing⟩
  have O_are_handings : FnOk lawO.prog w K mg base CX0 3 (He.ga K "are_handings") fd_are_handings ["value", "parties"] (GSp S_are_handings) := gfn F_are_handings.dfl sc_are_handings (by intro zs P h; first | (rcases h with ⟨_, _, rfl, _⟩ | ⟨_, rfl, _⟩ <;> rfl) | (repeat' (first | (obtain ⟨rfl, _⟩ := h; rfl) | (obtain ⟨_, h⟩ := h)))) (fun cdv A outer s H E hr => d_are_handings T BD_is_handing BD_is_list hr) (fun zs P h => r_are_handings h)
  have BD_are_handings : Df lawO.prog w K mg base 3 "are_handings" ["value", "parties"] S_are_handings := ⟨⟨fd_are_handings, O_are_handings, B_are_handings⟩, F_are_handings.kp, g_are_handings⟩
  have O_W___init__ : FnOk lawO.prog w K mg base CX0 4 (He.ma K (He.ga K "Web") "__init__") fd_W___init__ ["self", "parties", "handings"] (GMk (He.ga K "Web") (S_Web (He.ga K "Web"))) := gmk F_W___init__.dfl sc_W___init__ (by simp [N_W___init__]) (by intro zs P h; first | (rcases h with ⟨_, _, rfl, _⟩ | ⟨_, rfl, _⟩ <;> rfl) | (repeat' (first | (obtain ⟨rfl, _⟩ := h; rfl) | (obtain ⟨_, h⟩ := h)))) (fun cdv A outer s H E hr => d_W___init__ T BD_are_handings BD_are_parties hr) (fun a zs P h => r_init h)
  have BC_Web : DfC lawO.prog w K mg base 4 "Web" (He.ga K "Web") ["self", "parties", "handings"] (S_Web (He.ga K "Web")) := ⟨⟨_, fd_W___init__, O_W___init__, B_W___init__, MW⟩, T.C_Web⟩
  have O__law_web : FnOk lawO.prog w K mg base CX0 6 (He.ga K "_law_web") fd__law_web ["_law_model_here"] (GSp (S__law_web (He.ga K "Web"))) := gfn F__law_web.dfl sc__law_web (by intro zs P h; first | (rcases h with ⟨_, _, rfl, _⟩ | ⟨_, rfl, _⟩ <;> rfl) | (repeat' (first | (obtain ⟨rfl, _⟩ := h; rfl) | (obtain ⟨_, h⟩ := h)))) (fun cdv A outer s H E hr => d__law_web T BC_Web hr) (fun zs P h => r__law_web h)
  have BD__law_web : Df lawO.prog w K mg base 6 "_law_web" ["_law_model_here"] (S__law_web (He.ga K "Web")) := ⟨⟨fd__law_web, O__law_web, B__law_web⟩, F__law_web.kp, g__law_web⟩
  have O__law_before : FnOk lawO.prog w K mg base CX0 2 (He.ga K "_law_before") fd__law_before ["_law_model_here", "_law_dot"] (GSp S__law_before) := gfn F__law_before.dfl sc__law_before (by intro zs P h; first | (rcases h with ⟨_, _, rfl, _⟩ | ⟨_, rfl, _⟩ <;> rfl) | (repeat' (first | (obtain ⟨rfl, _⟩ := h; rfl) | (obtain ⟨_, h⟩ := h)))) (fun cdv A outer s H E hr => d__law_before T  hr) (fun zs P h => r__law_before h)
  have BD__law_before : Df lawO.prog w K mg base 2 "_law_before" ["_law_model_here", "_law_dot"] S__law_before := ⟨⟨fd__law_before, O__law_before, B__law_before⟩, F__law_before.kp, g__law_before⟩
  have O__law_next : FnOk lawO.prog w K mg base CX0 2 (He.ga K "_law_next") fd__law_next ["_law_model_here", "_law_dot"] (GSp S__law_next) := gfn F__law_next.dfl sc__law_next (by intro zs P h; first | (rcases h with ⟨_, _, rfl, _⟩ | ⟨_, rfl, _⟩ <;> rfl) | (repeat' (first | (obtain ⟨rfl, _⟩ := h; rfl) | (obtain ⟨_, h⟩ := h)))) (fun cdv A outer s H E hr => d__law_next T  hr) (fun zs P h => r__law_next h)
  have BD__law_next : Df lawO.prog w K mg base 2 "_law_next" ["_law_model_here", "_law_dot"] S__law_next := ⟨⟨fd__law_next, O__law_next, B__law_next⟩, F__law_next.kp, g__law_next⟩
  have O__law_shorter : FnOk lawO.prog w K mg base CX0 2 (He.ga K "_law_shorter") fd__law_shorter ["_law_some"] (GSp S__law_shorter) := gfn F__law_shorter.dfl sc__law_shorter (by intro zs P h; first | (rcases h with ⟨_, _, rfl, _⟩ | ⟨_, rfl, _⟩ <;> rfl) | (repeat' (first | (obtain ⟨rfl, _⟩ := h; rfl) | (obtain ⟨_, h⟩ := h)))) (fun cdv A outer s H E hr => d__law_shorter T  hr) (fun zs P h => r__law_shorter h)
  have BD__law_shorter : Df lawO.prog w K mg base 2 "_law_shorter" ["_law_some"] S__law_shorter := ⟨⟨fd__law_shorter, O__law_shorter, B__law_shorter⟩, F__law_shorter.kp, g__law_shorter⟩
  have O__law_ways : FnOk lawO.prog w K mg base CX0 3 (He.ga K "_law_ways") fd__law_ways ["_law_model_here", "_law_start", "_law_goal"] (GSp S__law_ways) := gfn F__law_ways.dfl sc__law_ways (by intro zs P h; first | (rcases h with ⟨_, _, rfl, _⟩ | ⟨_, rfl, _⟩ <;> rfl) | (repeat' (first | (obtain ⟨rfl, _⟩ := h; rfl) | (obtain ⟨_, h⟩ := h)))) (fun cdv A outer s H E hr => d__law_ways T BD__law_next BD__law_shorter hr) (fun zs P h => r__law_ways h)
  have BD__law_ways : Df lawO.prog w K mg base 3 "_law_ways" ["_law_model_here", "_law_start", "_law_goal"] S__law_ways := ⟨⟨fd__law_ways, O__law_ways, B__law_ways⟩, F__law_ways.kp, g__law_ways⟩
  have O__law_rings : FnOk lawO.prog w K mg base CX0 4 (He.ga K "_law_rings") fd__law_rings ["_law_model_here"] (GSp S__law_rings) := gfn F__law_rings.dfl sc__law_rings (by intro zs P h; first | (rcases h with ⟨_, _, rfl, _⟩ | ⟨_, rfl, _⟩ <;> rfl) | (repeat' (first | (obtain ⟨rfl, _⟩ := h; rfl) | (obtain ⟨_, h⟩ := h)))) (fun cdv A outer s H E hr => d__law_rings T BD__law_before BD__law_shorter BD__law_ways hr) (fun zs P h => r__law_rings h)
  have BD__law_rings : Df lawO.prog w K mg base 4 "_law_rings" ["_law_model_here"] S__law_rings := ⟨⟨fd__law_rings, O__law_rings, B__law_rings⟩, F__law_rings.kp, g__law_rings⟩
  have O_check_web : FnOk lawO.prog w K mg base CX0 2 (He.ga K "check_web") fd_check_web ["web"] (GSp (S_check_web (He.ga K "Web"))) := gfn F_check_web.dfl sc_check_web (by intro zs P h; first | (rcases h with ⟨_, _, rfl, _⟩ | ⟨_, rfl, _⟩ <;> rfl) | (repeat' (first | (obtain ⟨rfl, _⟩ := h; rfl) | (obtain ⟨_, h⟩ := h)))) (fun cdv A outer s H E hr => d_check_web T  hr) (fun zs P h => r_check_web CF h)
  have BD_check_web : Df lawO.prog w K mg base 2 "check_web" ["web"] (S_check_web (He.ga K "Web")) := ⟨⟨fd_check_web, O_check_web, B_check_web⟩, F_check_web.kp, g_check_web⟩
  have O_W_parties : FnOk lawO.prog w K mg base CX0 2 (gtr K "Web" "parties") fd_W_parties ["self"] (GSp (S_parties (He.ga K "Web"))) := gfn F_W_parties.dfl sc_W_parties (by intro zs P h; first | (rcases h with ⟨_, _, rfl, _⟩ | ⟨_, rfl, _⟩ <;> rfl) | (repeat' (first | (obtain ⟨rfl, _⟩ := h; rfl) | (obtain ⟨_, h⟩ := h)))) (fun cdv A outer s H E hr => d_W_parties T  hr) (fun zs P h => r_parties h)
  have BP_parties : DfP lawO.prog w K mg base 2 (He.ga K "Web") "parties" (S_parties (He.ga K "Web")) := ⟨⟨_, _, fd_W_parties, ["self"], O_W_parties, B_W_parties, PO_parties⟩, T.cl⟩
  have O_check_party : FnOk lawO.prog w K mg base CX0 4 (He.ga K "check_party") fd_check_party ["web", "party"] (GSp (S_check_party (He.ga K "Web"))) := gfn F_check_party.dfl sc_check_party (by intro zs P h; first | (rcases h with ⟨_, _, rfl, _⟩ | ⟨_, rfl, _⟩ <;> rfl) | (repeat' (first | (obtain ⟨rfl, _⟩ := h; rfl) | (obtain ⟨_, h⟩ := h)))) (fun cdv A outer s H E hr => d_check_party T BP_parties hr) (fun zs P h => r_check_party h)
  have BD_check_party : Df lawO.prog w K mg base 4 "check_party" ["web", "party"] (S_check_party (He.ga K "Web")) := ⟨⟨fd_check_party, O_check_party, B_check_party⟩, F_check_party.kp, g_check_party⟩
  have O_W_outs : FnOk lawO.prog w K mg base CX0 5 (He.ma K (He.ga K "Web") "outs") fd_W_outs ["self", "party"] (GSp (S_outs (He.ga K "Web"))) := gfn F_W_outs.dfl sc_W_outs (by intro zs P h; first | (rcases h with ⟨_, _, rfl, _⟩ | ⟨_, rfl, _⟩ <;> rfl) | (repeat' (first | (obtain ⟨rfl, _⟩ := h; rfl) | (obtain ⟨_, h⟩ := h)))) (fun cdv A outer s H E hr => d_W_outs T BD_check_party hr) (fun zs P h => r_outs h)
  have BM_outs : DfM lawO.prog w K mg base 5 (He.ga K "Web") "outs" ["self", "party"] (S_outs (He.ga K "Web")) := ⟨⟨_, fd_W_outs, O_W_outs, B_W_outs, MM_outs⟩, T.cl⟩
  have O_ways_from : FnOk lawO.prog w K mg base CX0 6 (He.ga K "ways_from") fd_ways_from ["web", "start"] (GSp (S_ways_from (He.ga K "Web"))) := gfn F_ways_from.dfl sc_ways_from (by intro zs P h; first | (rcases h with ⟨_, _, rfl, _⟩ | ⟨_, rfl, _⟩ <;> rfl) | (repeat' (first | (obtain ⟨rfl, _⟩ := h; rfl) | (obtain ⟨_, h⟩ := h)))) (fun cdv A outer s H E hr => d_ways_from T BM_outs hr) (fun zs P h => r_ways_from h)
  have BD_ways_from : Df lawO.prog w K mg base 6 "ways_from" ["web", "start"] (S_ways_from (He.ga K "Web")) := ⟨⟨fd_ways_from, O_ways_from, B_ways_from⟩, F_ways_from.kp, g_ways_from⟩
  have O_W_handings : FnOk lawO.prog w K mg base CX0 2 (gtr K "Web" "handings") fd_W_handings ["self"] (GSp (S_handings (He.ga K "Web"))) := gfn F_W_handings.dfl sc_W_handings (by intro zs P h; first | (rcases h with ⟨_, _, rfl, _⟩ | ⟨_, rfl, _⟩ <;> rfl) | (repeat' (first | (obtain ⟨rfl, _⟩ := h; rfl) | (obtain ⟨_, h⟩ := h)))) (fun cdv A outer s H E hr => d_W_handings T  hr) (fun zs P h => r_handings h)
  have BP_handings : DfP lawO.prog w K mg base 2 (He.ga K "Web") "handings" (S_handings (He.ga K "Web")) := ⟨⟨_, _, fd_W_handings, ["self"], O_W_handings, B_W_handings, PO_handings⟩, T.cl⟩
  have O_shorter_first : FnOk lawO.prog w K mg base CX0 2 (He.ga K "shorter_first") fd_shorter_first ["rows"] (GSp S_shorter_first) := gfnC F_shorter_first.dfl sc_shorter_first (by intro zs P h; first | (rcases h with ⟨_, _, rfl, _⟩ | ⟨_, rfl, _⟩ <;> rfl) | (repeat' (first | (obtain ⟨rfl, _⟩ := h; rfl) | (obtain ⟨_, h⟩ := h)))) (fun cc A outer s H E o od osl lk hc hr => by
    have e : CT K = cc := He.codeOf_eq (p := ("shorter_first", none)) lk hc
    refine d_shorter_first (Pt := PT K) (qt := tq) (List.mem_singleton.mpr rfl) (fun t ht _ => by rw [show t = (PT K, tq) from List.mem_singleton.mp ht]) T ⟨?_, rfl, ?_⟩ hr
    · rw [← e]; exact tb (CT K, PT K) (List.mem_singleton.mpr rfl)
    · rfl) (fun zs P h => r_shorter_first h)
  have BD_shorter_first : Df lawO.prog w K mg base 2 "shorter_first" ["rows"] S_shorter_first := ⟨⟨fd_shorter_first, O_shorter_first, B_shorter_first⟩, F_shorter_first.kp, g_shorter_first⟩
  have O_rings : FnOk lawO.prog w K mg base CX0 7 (He.ga K "rings") fd_rings ["web"] (GSp (S_rings (He.ga K "Web"))) := gfn F_rings.dfl sc_rings (by intro zs P h; first | (rcases h with ⟨_, _, rfl, _⟩ | ⟨_, rfl, _⟩ <;> rfl) | (repeat' (first | (obtain ⟨rfl, _⟩ := h; rfl) | (obtain ⟨_, h⟩ := h)))) (fun cdv A outer s H E hr => d_rings T BD_check_web BD_shorter_first BD_ways_from BP_handings BP_parties hr) (fun zs P h => r_rings h)
  have BD_rings : Df lawO.prog w K mg base 7 "rings" ["web"] (S_rings (He.ga K "Web")) := ⟨⟨fd_rings, O_rings, B_rings⟩, F_rings.kp, g_rings⟩
  have O_has_common : FnOk lawO.prog w K mg base CX0 2 (He.ga K "has_common") fd_has_common ["lot", "other"] (GSp S_has_common) := gfn F_has_common.dfl sc_has_common (by intro zs P h; first | (rcases h with ⟨_, _, rfl, _⟩ | ⟨_, rfl, _⟩ <;> rfl) | (repeat' (first | (obtain ⟨rfl, _⟩ := h; rfl) | (obtain ⟨_, h⟩ := h)))) (fun cdv A outer s H E hr => d_has_common T  hr) (fun zs P h => r_has_common h)
  have BD_has_common : Df lawO.prog w K mg base 2 "has_common" ["lot", "other"] S_has_common := ⟨⟨fd_has_common, O_has_common, B_has_common⟩, F_has_common.kp, g_has_common⟩
  have O_apart : FnOk lawO.prog w K mg base CX0 8 (He.ga K "apart") fd_apart ["web"] (GSp (S_apart (He.ga K "Web"))) := gfn F_apart.dfl sc_apart (by intro zs P h; first | (rcases h with ⟨_, _, rfl, _⟩ | ⟨_, rfl, _⟩ <;> rfl) | (repeat' (first | (obtain ⟨rfl, _⟩ := h; rfl) | (obtain ⟨_, h⟩ := h)))) (fun cdv A outer s H E hr => d_apart T BD_check_web BD_has_common BD_rings hr) (fun zs P h => r_apart h)
  have BD_apart : Df lawO.prog w K mg base 8 "apart" ["web"] (S_apart (He.ga K "Web")) := ⟨⟨fd_apart, O_apart, B_apart⟩, F_apart.kp, g_apart⟩
  have BR_apart : DfR lawO.prog w K mg base 8 "apart" ["web"] ["web"] (S_apart (He.ga K "Web")) := ⟨⟨fd_apart, O_apart, FnP.bindsR F_apart fun _ _ _ _ _ _ us hl => match us, hl with | [_], _ => rfl⟩, F_apart.kp, g_apart⟩
  have O__law_most : FnOk lawO.prog w K mg base CX0 2 (He.ga K "_law_most") fd__law_most ["_law_some"] (GSp S__law_most) := gfn F__law_most.dfl sc__law_most (by intro zs P h; first | (rcases h with ⟨_, _, rfl, _⟩ | ⟨_, rfl, _⟩ <;> rfl) | (repeat' (first | (obtain ⟨rfl, _⟩ := h; rfl) | (obtain ⟨_, h⟩ := h)))) (fun cdv A outer s H E hr => d__law_most T  hr) (fun zs P h => r__law_most h)
  have BD__law_most : Df lawO.prog w K mg base 2 "_law_most" ["_law_some"] S__law_most := ⟨⟨fd__law_most, O__law_most, B__law_most⟩, F__law_most.kp, g__law_most⟩
  have O__law_right : FnG lawO.prog w K mg base 9 (He.ga K "_law_right") fd__law_right ["_law_model_here", "_law_made"] (GSp (S__law_right (He.ga K "Web"))) := gfnG F__law_right.dfl sc__law_right (by intro zs P h; first | (rcases h with ⟨_, _, rfl, _⟩ | ⟨_, rfl, _⟩ <;> rfl) | (repeat' (first | (obtain ⟨rfl, _⟩ := h; rfl) | (obtain ⟨_, h⟩ := h)))) (fun cdv A outer s H hr gu => d__law_right T BD__law_most BD__law_rings BD_apart BR_apart gu hr) (fun zs P h => r__law_right h)
  have BG__law_right : DfG lawO.prog w K mg base 9 "_law_right" ["_law_model_here", "_law_made"] (S__law_right (He.ga K "Web")) := ⟨⟨fd__law_right, O__law_right, B__law_right⟩, F__law_right.kp, g__law_right⟩
  have O_W_with_handing : FnOk lawO.prog w K mg base CX0 6 (He.ma K (He.ga K "Web") "with_handing") fd_W_with_handing ["self", "handing"] (GSp (S_with_handing (He.ga K "Web"))) := gfn F_W_with_handing.dfl sc_W_with_handing (by intro zs P h; first | (rcases h with ⟨_, _, rfl, _⟩ | ⟨_, rfl, _⟩ <;> rfl) | (repeat' (first | (obtain ⟨rfl, _⟩ := h; rfl) | (obtain ⟨_, h⟩ := h)))) (fun cdv A outer s H E hr => d_W_with_handing T BC_Web BD_is_handing hr) (fun zs P h => r_with_handing h)
  have BM_with_handing : DfM lawO.prog w K mg base 6 (He.ga K "Web") "with_handing" ["self", "handing"] (S_with_handing (He.ga K "Web")) := ⟨⟨_, fd_W_with_handing, O_W_with_handing, B_W_with_handing, MM_with_handing⟩, T.cl⟩
  rw [← hlaw]
  exact law_ok F_law.dfl O__law_begin g__law_begin F__law_begin.kp B__law_begin (fun cdv A outer s H hr gu => d_law T BD__law_mixed BD__law_model BD__law_pairs BD__law_take BD__law_web BG__law_right BM_with_handing gu hr)
end GH
end
set_option linter.all false
set_option maxRecDepth 100000
set_option maxHeartbeats 0
open PySem PySem.W PySem.Calls PyProof.Rows
theorem GH.callW : WalkO GH.qv GH.loose (XL GH.qv []) (GH.hookY 6).says GH.R.toRowW (HandSHeadRun.topDef GH.lawO.prog 41) [] fun f vs => PySem.call f vs :=
  GL.walk_ofGT (l := GH.lawO) (n := 63) (k := 10) (x := "_law_script") rfl (by decide) rfl ⟨rfl, by decide, by decide⟩ fun w mg fa h Y G e => by
    obtain ⟨K, hK, c, q⟩ := Y
    exact GH.asm hK G c q e
theorem PySem.Challenge.cw_handlocks_k13_rings_apart_holds : PySem.Challenge.rw_handlocks_k13_rings_apart.Holds := by
  w_on; o_law
  refine HandSHeadRun.head_any (r := OpenLaw.row PySem.Challenge.rw_handlocks_k13_rings_apart) (q := GH.qv) (H := GH.hookY 6) (ob := GH.ob) (M := 4000) (loose := GH.loose) (kwd := []) GH.ob_eq (by kernel_rfl) (fun s => by kernel_rfl) GH.run (by rfl) (by rfl) (by rfl) (by rfl) (by first | assumption | decide +kernel) (by decide +kernel) ⟨rfl, rfl, rfl, rfl, rfl, by decide +kernel⟩ ?hw ?hc
  case hw => w_witness2
  case hc => exact GH.callW
