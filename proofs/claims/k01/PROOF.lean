import PyProof.Rows.All
import Wide.All
import OpenK.AllK
import Wide.FinOn
import HandS.ForMost
import HandS.ForExc
import HandS.Wide
import HandS.TupAny
import HandS.TupMul
import HandS.RaiseMore
import HandS.ExcInit
import HandS.IsInst
import HandS.Conv
import HandS.Style
import HandS.Lambda
import KE.KExcInit
import KE.KExcMake
import KE.KExcIs
import KE.KIsAll
import HandS.List
import HandS.Dict
import PyProof.ReprReads
import PyProof.ReprRoads
import PyProof.CallFns
import HandS.Ends
import PySem.Challenge.RW_closedroads_k01_limits_and_errors
set_option Elab.async false
set_option linter.all false
set_option maxRecDepth 100000
set_option maxHeartbeats 4000000
/-! A heap-free calculus over the hand layer: data, cells of lists, what an expression, a statement comes to. -/
namespace Al
open PySem PySem.Spec PyProof.Rows L2

/-- data: immutable things by what they hold -/
inductive Da where
  | non | bl (b : Bool) | int (i : Int) | str (x : Str) | ty (n : String) | cl (c : Str)
  | tup (l : List Da) | lst (l : List Da) | dic (ks : List Key) (l : List Da) | scr (ns : List Int)
  | ins (c : Str) (ks : List Str) (l : List Da) | exc (c : Str) (ks : List Str) (l : List Da)

mutual
inductive Dn (ca : Str → Addr) (K : PySem.W.Frag) (G : Hp) : V → Da → Prop
  | non : Dn ca K G .non .non
  | bl (b : Bool) : Dn ca K G (.bl b) (.bl b)
  | int (i : Int) : Dn ca K G (.int i) (.int i)
  | str (x : Str) : Dn ca K G (.str x) (.str x)
  | ty (n : String) : Dn ca K G (.ty n) (.ty n)
  | cl (c : Str) : Dn ca K G (.ref (ca c)) (.cl c)
  | tup {a : Addr} {xs : List V} {ds : List Da} : SqT K G a xs → DnL ca K G xs ds → Dn ca K G (.ref a) (.tup ds)
  | lst {a : Addr} {xs : List V} {ds : List Da} : G a = some (.lst xs) → DnL ca K G xs ds → Dn ca K G (.ref a) (.lst ds)
  | scr {a : Addr} {ns : List Int} : SqL K G a (ns.map V.int) → Dn ca K G (.ref a) (.scr ns)
  | dic {a : Addr} {kvs : List (Key × V)} {ks : List Key} {ds : List Da} : G a = some (.dK kvs) → kvs.map (·.1) = ks → DnL ca K G (kvs.map (·.2)) ds → Dn ca K G (.ref a) (.dic ks ds)
  | ins {a dx : Addr} {fs : List (Str × V)} {c : Str} {ks : List Str} {ds : List Da} : G a = some (.ins (ca c) dx fs) → fs.map (·.1) = ks → DnL ca K G (fs.map (·.2)) ds → Dn ca K G (.ref a) (.ins c ks ds)
  | exc0 {a : Addr} {c : Str} : G a = some (exo a (ca c) none) → Dn ca K G (.ref a) (.exc c [] [])
  | exc1 {a dx : Addr} {fs : List (Str × V)} {c : Str} {ks : List Str} {ds : List Da} : G a = some (exo a (ca c) (some dx)) → G dx = some (exd dx fs) → fs.map (·.1) = ks → DnL ca K G (fs.map (·.2)) ds → Dn ca K G (.ref a) (.exc c ks ds)
inductive DnL (ca : Str → Addr) (K : PySem.W.Frag) (G : Hp) : List V → List Da → Prop
  | nil : DnL ca K G [] []
  | cons {v : V} {vs : List V} {d : Da} {ds : List Da} : Dn ca K G v d → DnL ca K G vs ds → DnL ca K G (v :: vs) (d :: ds)
end

/-- all that was known is as it was -/
def Ex (G G' : Hp) : Prop := ∀ a o, G a = some o → G' a = some o
theorem Ex.refl (G : Hp) : Ex G G := fun _ _ h => h
theorem Ex.trans {G H I : Hp} (a : Ex G H) (b : Ex H I) : Ex G I := fun x o h => b x o (a x o h)
theorem Ex.new {G : Hp} {p : Addr} {o : HO} (h : G p = none) : Ex G (upd G p o) := fun a u e => by
  rw [upd_ne (ne_of_none e h)]
  exact e
theorem Ex.rd {G G' : Hp} (e : Ex G G') {a : Addr} {u : HO} (h : Rd G a u) : Rd G' a u := by
  rcases h with h | ⟨o, h⟩
  · exact Or.inl (e a _ h)
  · exact Or.inr ⟨o, e a _ h⟩
theorem Ex.sql {K : PySem.W.Frag} {G G' : Hp} (e : Ex G G') {a : Addr} {xs : List V} (h : SqL K G a xs) : SqL K G' a xs := by
  rcases h with h | h
  · exact Or.inl (e.rd h)
  · exact Or.inr h
theorem Ex.sqt {K : PySem.W.Frag} {G G' : Hp} (e : Ex G G') {a : Addr} {xs : List V} (h : SqT K G a xs) : SqT K G' a xs := by
  rcases h with h | h
  · exact Or.inl (e.rd h)
  · exact Or.inr h
mutual
theorem Dn.mono {ca : Str → Addr} {K : PySem.W.Frag} {G G' : Hp} (e : Ex G G') : ∀ {v : V} {d : Da}, Dn ca K G v d → Dn ca K G' v d
  | _, _, .non => .non
  | _, _, .bl b => .bl b
  | _, _, .int i => .int i
  | _, _, .str x => .str x
  | _, _, .ty n => .ty n
  | _, _, .cl n => .cl n
  | _, _, .tup h l => .tup (e.sqt h) (l.mono e)
  | _, _, .lst h l => .lst (e _ _ h) (l.mono e)
  | _, _, .scr h => .scr (e.sql h)
  | _, _, .dic h k l => .dic (e _ _ h) k (l.mono e)
  | _, _, .ins h k l => .ins (e _ _ h) k (l.mono e)
  | _, _, .exc0 h => .exc0 (e _ _ h)
  | _, _, .exc1 h h2 k l => .exc1 (e _ _ h) (e _ _ h2) k (l.mono e)
theorem DnL.mono {ca : Str → Addr} {K : PySem.W.Frag} {G G' : Hp} (e : Ex G G') : ∀ {vs : List V} {ds : List Da}, DnL ca K G vs ds → DnL ca K G' vs ds
  | _, _, .nil => .nil
  | _, _, .cons h t => .cons (h.mono e) (t.mono e)
end
section
variable {ca : Str → Addr} {K : PySem.W.Frag} {G : Hp}
theorem DnL.length : ∀ {vs : List V} {ds : List Da}, DnL ca K G vs ds → vs.length = ds.length
  | _, _, .nil => rfl
  | _, _, .cons _ t => congrArg (· + 1) t.length
theorem DnL.get : ∀ {vs : List V} {ds : List Da} {i : Nat} {d : Da}, DnL ca K G vs ds → ds[i]? = some d → ∃ v, vs[i]? = some v ∧ Dn ca K G v d
  | _, _, _, _, .nil, e => by simp at e
  | _, _, 0, _, .cons h _, e => by
    have e' := Option.some.inj e
    subst e'
    exact ⟨_, rfl, h⟩
  | _, _, i + 1, d, .cons _ t, e => DnL.get (i := i) t e
theorem DnL.at_ : ∀ {vs : List V} {ds : List Da} {i : Nat} {v : V}, DnL ca K G vs ds → vs[i]? = some v → ∃ d, ds[i]? = some d ∧ Dn ca K G v d
  | _, _, _, _, .nil, e => by simp at e
  | _, _, 0, _, .cons h _, e => by
    have e' := Option.some.inj e
    subst e'
    exact ⟨_, rfl, h⟩
  | _, _, i + 1, v, .cons _ t, e => DnL.at_ (i := i) t e
theorem DnL.append : ∀ {vs us : List V} {ds es : List Da}, DnL ca K G vs ds → DnL ca K G us es → DnL ca K G (vs ++ us) (ds ++ es)
  | _, _, _, _, .nil, h => h
  | _, _, _, _, .cons h t, u => .cons h (t.append u)
theorem DnL.take : ∀ {vs : List V} {ds : List Da} (n : Nat), DnL ca K G vs ds → DnL ca K G (vs.take n) (ds.take n)
  | _, _, 0, _ => .nil
  | _, _, n + 1, .nil => .nil
  | _, _, n + 1, .cons h t => .cons h (t.take n)
theorem DnL.drop : ∀ {vs : List V} {ds : List Da} (n : Nat), DnL ca K G vs ds → DnL ca K G (vs.drop n) (ds.drop n)
  | _, _, 0, h => h
  | _, _, n + 1, .nil => .nil
  | _, _, n + 1, .cons _ t => t.drop n
theorem DnL.set {v : V} {d : Da} (h : Dn ca K G v d) : ∀ {vs : List V} {ds : List Da} (n : Nat), DnL ca K G vs ds → DnL ca K G (vs.set n v) (ds.set n d)
  | _, _, _, .nil => .nil
  | _, _, 0, .cons _ t => .cons h t
  | _, _, n + 1, .cons g t => .cons g (DnL.set h n t)
theorem DnL.erase : ∀ {vs : List V} {ds : List Da} (n : Nat), DnL ca K G vs ds → DnL ca K G (vs.eraseIdx n) (ds.eraseIdx n)
  | _, _, _, .nil => .nil
  | _, _, 0, .cons _ t => t
  | _, _, n + 1, .cons g t => .cons g (DnL.erase n t)
theorem Dn.int_inv {v : V} {i : Int} (h : Dn ca K G v (.int i)) : v = .int i := by cases h; rfl
theorem Dn.bl_inv {v : V} {i : Bool} (h : Dn ca K G v (.bl i)) : v = .bl i := by cases h; rfl
theorem Dn.str_inv {v : V} {i : Str} (h : Dn ca K G v (.str i)) : v = .str i := by cases h; rfl
theorem Dn.non_inv {v : V} (h : Dn ca K G v .non) : v = .non := by cases h; rfl
theorem DnL.ints : ∀ {vs : List V} {ns : List Int}, DnL ca K G vs (ns.map Da.int) → vs = ns.map V.int
  | _, [], .nil => rfl
  | _, n :: ns, .cons h t => by
    rw [h.int_inv, DnL.ints t]
    rfl
theorem DnL.of_ints : ∀ (ns : List Int), DnL ca K G (ns.map V.int) (ns.map Da.int)
  | [] => .nil
  | n :: ns => .cons (.int n) (DnL.of_ints ns)
theorem DnL.strs : ∀ {vs : List V} {ns : List Str}, DnL ca K G vs (ns.map Da.str) → vs = ns.map V.str
  | _, [], .nil => rfl
  | _, n :: ns, .cons h t => by
    rw [h.str_inv, DnL.strs t]
    rfl
theorem DnL.of_strs : ∀ (ns : List Str), DnL ca K G (ns.map V.str) (ns.map Da.str)
  | [] => .nil
  | n :: ns => .cons (.str n) (DnL.of_strs ns)
theorem DnL.bls : ∀ {vs : List V} {ns : List Bool}, DnL ca K G vs (ns.map Da.bl) → vs = ns.map V.bl
  | _, [], .nil => rfl
  | _, n :: ns, .cons h t => by
    rw [h.bl_inv, DnL.bls t]
    rfl
theorem DnL.of_bls : ∀ (ns : List Bool), DnL ca K G (ns.map V.bl) (ns.map Da.bl)
  | [] => .nil
  | n :: ns => .cons (.bl n) (DnL.of_bls ns)
end

/-- the heap H holds the data part G and the part R of things that change, apart from one another -/
structure Wd (G R H : Hp) : Prop where
  g : ∀ a o, G a = some o → H a = some o
  r : ∀ a o, R a = some o → H a = some o
  d : ∀ a o, G a = some o → R a = none
theorem Wd.newG {G R H : Hp} {p : Addr} {o : HO} (w : Wd G R H) (h : H p = none) : Wd (upd G p o) R (upd H p o) := by
  have hr : ∀ a u, R a = some u → a ≠ p := fun a u e z => by
    rw [z] at e
    rw [w.r _ _ e] at h
    cases h
  refine ⟨fun a u e => ?_, fun a u e => ?_, fun a u e => ?_⟩
  · by_cases z : a = p
    · rw [z, upd_same] at e
      rw [z, upd_same]
      exact e
    · rw [upd_ne z] at e
      rw [upd_ne z]
      exact w.g a u e
  · rw [upd_ne (hr a u e)]
    exact w.r a u e
  · by_cases z : a = p
    · cases q : R a with
      | none => rfl
      | some u2 => exact absurd z (hr a u2 q)
    · rw [upd_ne z] at e
      exact w.d a u e
theorem Wd.freshG {G R H : Hp} {p : Addr} (w : Wd G R H) (h : H p = none) : G p = none := by
  cases q : G p with
  | none => rfl
  | some o =>
    rw [w.g _ _ q] at h
    cases h
theorem Wd.freshR {G R H : Hp} {p : Addr} (w : Wd G R H) (h : H p = none) : R p = none := by
  cases q : R p with
  | none => rfl
  | some o =>
    rw [w.r _ _ q] at h
    cases h
theorem Wd.newR {G R H : Hp} {p : Addr} {o : HO} (w : Wd G R H) (h : H p = none) : Wd G (upd R p o) (upd H p o) := by
  have hg : ∀ a u, G a = some u → a ≠ p := fun a u e z => by
    rw [z] at e
    rw [w.g _ _ e] at h
    cases h
  refine ⟨fun a u e => ?_, fun a u e => ?_, fun a u e => ?_⟩
  · rw [upd_ne (hg a u e)]
    exact w.g a u e
  · by_cases z : a = p
    · rw [z, upd_same] at e
      rw [z, upd_same]
      exact e
    · rw [upd_ne z] at e
      rw [upd_ne z]
      exact w.r a u e
  · rw [upd_ne (hg a u e)]
    exact w.d a u e
theorem Wd.setR {G R H : Hp} {p : Addr} {o u : HO} (w : Wd G R H) (h : R p = some u) : Wd G (upd R p o) (upd H p o) := by
  have hg : ∀ a u, G a = some u → a ≠ p := fun a v e z => by
    rw [z] at e
    have := w.d _ _ e
    rw [h] at this
    cases this
  refine ⟨fun a u e => ?_, fun a u e => ?_, fun a u e => ?_⟩
  · rw [upd_ne (hg a u e)]
    exact w.g a u e
  · by_cases z : a = p
    · rw [z, upd_same] at e
      rw [z, upd_same]
      exact e
    · rw [upd_ne z] at e
      rw [upd_ne z]
      exact w.r a u e
  · rw [upd_ne (hg a u e)]
    exact w.d a u e
theorem Wd.less {G R R' H : Hp} (w : Wd G R H) (h : Ex R' R) : Wd G R' H :=
  ⟨w.g, fun a o e => w.r a o (h a o e), fun a o e => by
    cases q : R' a with
    | none => rfl
    | some u =>
      have z := w.d a o e
      rw [h a u q] at z
      cases z⟩
/-- an abstract heap without p -/
def cut (R : Hp) (p : Addr) : Hp := fun a => if a = p then none else R a
theorem cut_same {R : Hp} {p : Addr} : cut R p p = none := if_pos rfl
theorem cut_ne {R : Hp} {a p : Addr} (h : a ≠ p) : cut R p a = R a := if_neg h
/-- a thing that won't change any more -/
theorem Wd.freeze {G R H : Hp} {p : Addr} {o : HO} (w : Wd G R H) (h : R p = some o) : Wd (upd G p o) (cut R p) H := by
  refine ⟨fun a u e => ?_, fun a u e => ?_, fun a u e => ?_⟩
  · by_cases z : a = p
    · rw [z, upd_same] at e
      cases e
      rw [z]
      exact w.r _ _ h
    · rw [upd_ne z] at e
      exact w.g a u e
  · by_cases z : a = p
    · rw [z, cut_same] at e
      cases e
    · rw [cut_ne z] at e
      exact w.r a u e
  · by_cases z : a = p
    · rw [z]
      exact cut_same
    · rw [upd_ne z] at e
      rw [cut_ne z]
      exact w.d a u e
theorem Wd.noG {G R H : Hp} {p : Addr} {o : HO} (w : Wd G R H) (h : R p = some o) : G p = none := by
  cases q : G p with
  | none => rfl
  | some u =>
    have z := w.d p u q
    rw [h] at z
    cases z

/-- a value as it is told: data, or the cell k (a list that changes) -/
inductive AV where
  | im (d : Da) | ow (k : Nat)
abbrev Cells := List (Option (List Da))
abbrev En := List (Option AV)
def AVok (ca : Str → Addr) (K : PySem.W.Frag) (G : Hp) (ps : List Addr) (v : V) : AV → Prop
  | .im d => Dn ca K G v d
  | .ow k => ∃ p, ps[k]? = some p ∧ v = .ref p
theorem AVok.mono {ca : Str → Addr} {K : PySem.W.Frag} {G G' : Hp} {ps ps' : List Addr} {v : V} (e : Ex G G') (hp : ∀ (k : Nat) (p : Addr), ps[k]? = some p → ps'[k]? = some p) : ∀ {a : AV}, AVok ca K G ps v a → AVok ca K G' ps' v a
  | .im _, h => Dn.mono e h
  | .ow k, ⟨p, h, q⟩ => ⟨p, hp k p h, q⟩
structure Rep (ca : Str → Addr) (K : PySem.W.Frag) (env : En) (cs : Cells) (ps : List Addr) (σ : L2.St) (G R H : Hp) : Prop where
  wd : Wd G R H
  nd : ps.Nodup
  len : ps.length = cs.length
  cell : ∀ (k : Nat) (p : Addr) (ds : List Da), ps[k]? = some p → cs[k]? = some (some ds) → ∃ vs, R p = some (.lst vs) ∧ DnL ca K G vs ds
  dead : ∀ (k : Nat) (p : Addr), ps[k]? = some p → cs[k]? = some none → ∃ o, G p = some o
  sv : ∀ (i : Nat) (a : AV), env[i]? = some (some a) → ∃ v, σ[i]? = some (some v) ∧ AVok ca K G ps v a
  sl : σ.length = env.length
/-- what a step leaves: data grow; what others may change stands; new cells were new -/
structure Gr (ps : List Addr) (G R : Hp) (ps' : List Addr) (G' R' : Hp) : Prop where
  ex : Ex G G'
  oth : ∀ q o, q ∉ ps → R q = some o → R' q = some o
  pre : ∀ (k : Nat) (p : Addr), ps[k]? = some p → ps'[k]? = some p
  new : ∀ p, p ∈ ps' → p ∉ ps → R p = none
theorem Gr.refl (ps : List Addr) (G R : Hp) : Gr ps G R ps G R := ⟨Ex.refl G, fun _ _ _ h => h, fun _ _ h => h, fun _ h n => absurd h n⟩
theorem mem_of_pre {ps ps' : List Addr} (h : ∀ (k : Nat) (p : Addr), ps[k]? = some p → ps'[k]? = some p) {q : Addr} (m : q ∈ ps) : q ∈ ps' := by
  obtain ⟨k, hk⟩ := List.mem_iff_getElem?.mp m
  exact List.mem_iff_getElem?.mpr ⟨k, h k q hk⟩
theorem Gr.trans {ps ps1 ps2 : List Addr} {G G1 G2 R R1 R2 : Hp} (a : Gr ps G R ps1 G1 R1) (b : Gr ps1 G1 R1 ps2 G2 R2) : Gr ps G R ps2 G2 R2 where
  ex := a.ex.trans b.ex
  oth := fun q o n h => b.oth q o (fun m => by
    have z := a.new q m n
    rw [h] at z
    cases z) (a.oth q o n h)
  pre := fun k p h => b.pre k p (a.pre k p h)
  new := fun p m n => by
    by_cases m1 : p ∈ ps1
    · exact a.new p m1 n
    · have z := b.new p m m1
      cases q : R p with
      | none => rfl
      | some o =>
        rw [a.oth p o n q] at z
        cases z
theorem Gr.data {ps : List Addr} {G G' R : Hp} (e : Ex G G') : Gr ps G R ps G' R := ⟨e, fun _ _ _ h => h, fun _ _ h => h, fun _ h n => absurd h n⟩

section
variable {ca : Str → Addr} {K : PySem.W.Frag} {env : En} {cs : Cells} {ps : List Addr} {σ : L2.St} {G R H : Hp}
theorem Rep.there (r : Rep ca K env cs ps σ G R H) {k : Nat} {p : Addr} (h : ps[k]? = some p) : ∃ o, H p = some o := by
  have hk : k < cs.length := by
    rw [← r.len]
    exact (List.getElem?_eq_some_iff.mp h).1
  cases e : cs[k] with
  | none =>
    obtain ⟨o, q⟩ := r.dead k p h (by rw [List.getElem?_eq_getElem hk, e])
    exact ⟨o, r.wd.g _ _ q⟩
  | some ds =>
    obtain ⟨vs, q, _⟩ := r.cell k p ds h (by rw [List.getElem?_eq_getElem hk, e])
    exact ⟨_, r.wd.r _ _ q⟩
theorem Rep.notin (r : Rep ca K env cs ps σ G R H) {p : Addr} (h : H p = none) : p ∉ ps := fun m => by
  obtain ⟨k, hk⟩ := List.mem_iff_getElem?.mp m
  obtain ⟨o, q⟩ := r.there hk
  rw [h] at q
  cases q
theorem Rep.grow {G' H' : Hp} (r : Rep ca K env cs ps σ G R H) (e : Ex G G') (w : Wd G' R H') : Rep ca K env cs ps σ G' R H' where
  wd := w
  nd := r.nd
  len := r.len
  cell := fun k q ds h1 h2 => by
    obtain ⟨vs, a, b⟩ := r.cell k q ds h1 h2
    exact ⟨vs, a, b.mono e⟩
  dead := fun k q h1 h2 => by
    obtain ⟨o, a⟩ := r.dead k q h1 h2
    exact ⟨o, e _ _ a⟩
  sv := fun i a z => by
    obtain ⟨v, h1, h2⟩ := r.sv i a z
    exact ⟨v, h1, AVok.mono e (fun _ _ z => z) h2⟩
  sl := r.sl
/-- new data -/
theorem Rep.newG {p : Addr} {o : HO} (r : Rep ca K env cs ps σ G R H) (h : H p = none) : Rep ca K env cs ps σ (upd G p o) R (upd H p o) :=
  r.grow (Ex.new (r.wd.freshG h)) (r.wd.newG h)
/-- a cell is changed -/
theorem Rep.setC {k : Nat} {p : Addr} {vs vs' : List V} {ds' : List Da} (r : Rep ca K env cs ps σ G R H) (hp : ps[k]? = some p) (h : R p = some (.lst vs)) (hd : DnL ca K G vs' ds') :
    Rep ca K env (cs.set k (some ds')) ps σ G (upd R p (.lst vs')) (upd H p (.lst vs')) where
  wd := r.wd.setR h
  nd := r.nd
  len := by rw [r.len, List.length_set]
  cell := fun j q ds h1 h2 => by
    by_cases e : j = k
    · subst e
      rw [hp] at h1
      cases h1
      have hk : j < cs.length := by
        rw [← r.len]
        exact (List.getElem?_eq_some_iff.mp hp).1
      rw [List.getElem?_set_self hk] at h2
      cases h2
      exact ⟨vs', upd_same, hd⟩
    · rw [List.getElem?_set_ne (Ne.symm e)] at h2
      obtain ⟨us, a, b⟩ := r.cell j q ds h1 h2
      exact ⟨us, by rw [upd_ne (fun z => e (L2.nd_ix r.nd h1 (by rw [z]; exact hp)))]; exact a, b⟩
  dead := fun j q h1 h2 => by
    by_cases e : j = k
    · subst e
      have hk : j < cs.length := by
        rw [← r.len]
        exact (List.getElem?_eq_some_iff.mp hp).1
      rw [List.getElem?_set_self hk] at h2
      cases h2
    · rw [List.getElem?_set_ne (Ne.symm e)] at h2
      exact r.dead j q h1 h2
  sv := r.sv
  sl := r.sl
theorem Gr.setC {k : Nat} {p : Addr} {o : HO} (hp : ps[k]? = some p) : Gr ps G R ps G (upd R p o) :=
  ⟨Ex.refl G, fun q u n h => by rw [upd_ne (fun z => n (by rw [z]; exact List.mem_iff_getElem?.mpr ⟨k, hp⟩))]; exact h, fun _ _ z => z, fun _ h n => absurd h n⟩
/-- a slot is set -/
theorem Rep.setE {i : Nat} {v : V} {a : AV} (r : Rep ca K env cs ps σ G R H) (h : AVok ca K G ps v a) (hi : i < env.length) : Rep ca K (env.set i (some a)) cs ps (σ.set i (some v)) G R H where
  wd := r.wd
  nd := r.nd
  len := r.len
  cell := r.cell
  dead := r.dead
  sv := fun j b e => by
    by_cases z : j = i
    · subst z
      rw [List.getElem?_set_self hi] at e
      cases e
      exact ⟨v, List.getElem?_set_self (by rw [r.sl]; exact hi), h⟩
    · rw [List.getElem?_set_ne (Ne.symm z)] at e
      obtain ⟨u, h1, h2⟩ := r.sv j b e
      exact ⟨u, by rw [List.getElem?_set_ne (Ne.symm z)]; exact h1, h2⟩
  sl := by rw [List.length_set, List.length_set, r.sl]
/-- a new cell -/
theorem Rep.newC {p : Addr} {vs : List V} {ds : List Da} (r : Rep ca K env cs ps σ G R H) (h : H p = none) (hd : DnL ca K G vs ds) : Rep ca K env (cs ++ [some ds]) (ps ++ [p]) σ G (upd R p (.lst vs)) (upd H p (.lst vs)) where
  wd := r.wd.newR h
  nd := by
    rw [List.nodup_append]
    refine ⟨r.nd, by simp, fun a ha b hb => ?_⟩
    have e : b = p := by simpa using hb
    subst e
    rintro rfl
    exact r.notin h ha
  len := by simp [r.len]
  cell := fun j q es h1 h2 => by
    by_cases hj : j < ps.length
    · rw [List.getElem?_append_left hj] at h1
      rw [List.getElem?_append_left (by rw [← r.len]; exact hj)] at h2
      obtain ⟨us, a, b⟩ := r.cell j q es h1 h2
      exact ⟨us, by rw [upd_ne (fun z => r.notin h (by rw [← z]; exact List.mem_iff_getElem?.mpr ⟨j, h1⟩))]; exact a, b⟩
    · have hj' : j = ps.length := by
        have z := (List.getElem?_eq_some_iff.mp h1).1
        rw [List.length_append, List.length_singleton] at z
        omega
      subst hj'
      rw [List.getElem?_append_right (Nat.le_refl _), Nat.sub_self] at h1
      rw [r.len, List.getElem?_append_right (Nat.le_refl _), Nat.sub_self] at h2
      cases h1
      cases h2
      exact ⟨vs, upd_same, hd⟩
  dead := fun j q h1 h2 => by
    by_cases hj : j < ps.length
    · rw [List.getElem?_append_left hj] at h1
      rw [List.getElem?_append_left (by rw [← r.len]; exact hj)] at h2
      exact r.dead j q h1 h2
    · have hj' : j = ps.length := by
        have z := (List.getElem?_eq_some_iff.mp h1).1
        rw [List.length_append, List.length_singleton] at z
        omega
      subst hj'
      rw [r.len, List.getElem?_append_right (Nat.le_refl _), Nat.sub_self] at h2
      cases h2
  sv := fun i a z => by
    obtain ⟨v, h1, h2⟩ := r.sv i a z
    refine ⟨v, h1, AVok.mono (Ex.refl G) (fun k q z => ?_) h2⟩
    rw [List.getElem?_append_left (List.getElem?_eq_some_iff.mp z).1]
    exact z
  sl := r.sl
theorem Gr.newC {p : Addr} {o : HO} (r : Rep ca K env cs ps σ G R H) (h : H p = none) : Gr ps G R (ps ++ [p]) G (upd R p o) :=
  ⟨Ex.refl G, fun q u n e => by
    rw [upd_ne (fun z => by
      have y := r.wd.freshR h
      rw [← z, e] at y
      cases y)]
    exact e, fun k q z => by
    rw [List.getElem?_append_left (List.getElem?_eq_some_iff.mp z).1]
    exact z, fun q m n => by
    rcases List.mem_append.mp m with m | m
    · exact absurd m n
    · have e : q = p := by simpa using m
      rw [e]
      exact r.wd.freshR h⟩
/-- what the cell k was is data from now on -/
def thaw (k : Nat) (d : Da) : Option AV → Option AV
  | some (.ow j) => if j = k then some (.im d) else some (.ow j)
  | a => a
theorem Rep.frz {k : Nat} {p : Addr} {ds : List Da} (r : Rep ca K env cs ps σ G R H) (hp : ps[k]? = some p) (hc : cs[k]? = some (some ds)) :
    ∃ vs, Rep ca K (env.map (thaw k (.lst ds))) (cs.set k none) ps σ (upd G p (.lst vs)) (cut R p) H ∧ Gr ps G R ps (upd G p (.lst vs)) (cut R p) ∧ Dn ca K (upd G p (.lst vs)) (.ref p) (.lst ds) := by
  obtain ⟨vs, hR, hd⟩ := r.cell k p ds hp hc
  have hn := r.wd.noG hR
  have ex : Ex G (upd G p (.lst vs)) := Ex.new hn
  have hl : Dn ca K (upd G p (.lst vs)) (.ref p) (.lst ds) := .lst upd_same (hd.mono ex)
  have hk : k < cs.length := (List.getElem?_eq_some_iff.mp hc).1
  refine ⟨vs, { wd := r.wd.freeze hR, nd := r.nd, len := by rw [r.len, List.length_set], cell := fun j q es h1 h2 => ?_, dead := fun j q h1 h2 => ?_, sv := fun i a z => ?_, sl := by rw [List.length_map, r.sl] }, ⟨ex, fun q o n e => ?_, fun _ _ z => z, fun _ h n => absurd h n⟩, hl⟩
  · by_cases e : j = k
    · subst e
      rw [List.getElem?_set_self hk] at h2
      cases h2
    · rw [List.getElem?_set_ne (Ne.symm e)] at h2
      obtain ⟨us, a, b⟩ := r.cell j q es h1 h2
      exact ⟨us, by rw [cut_ne (fun z => e (L2.nd_ix r.nd h1 (by rw [z]; exact hp)))]; exact a, b.mono ex⟩
  · by_cases e : j = k
    · subst e
      rw [hp] at h1
      cases h1
      exact ⟨_, upd_same⟩
    · rw [List.getElem?_set_ne (Ne.symm e)] at h2
      obtain ⟨o, a⟩ := r.dead j q h1 h2
      exact ⟨o, ex _ _ a⟩
  · rw [List.getElem?_map] at z
    cases e : env[i]? with
    | none =>
      rw [e] at z
      cases z
    | some b =>
      rw [e] at z
      have z2 : thaw k (.lst ds) b = some a := Option.some.inj z
      cases b with
      | none => cases z2
      | some c =>
        obtain ⟨v, h1, h2⟩ := r.sv i c e
        refine ⟨v, h1, ?_⟩
        cases c with
        | im d =>
          have z3 : a = .im d := (Option.some.inj z2).symm
          subst z3
          exact Dn.mono ex h2
        | ow j =>
          have z3 : (if j = k then some (AV.im (.lst ds)) else some (AV.ow j)) = some a := z2
          by_cases ej : j = k
          · rw [if_pos ej] at z3
            have z4 := (Option.some.inj z3).symm
            subst z4
            obtain ⟨p', hp', ev⟩ := h2
            rw [ej, hp] at hp'
            cases hp'
            rw [ev]
            exact hl
          · rw [if_neg ej] at z3
            have z4 := (Option.some.inj z3).symm
            subst z4
            exact h2
  · rw [cut_ne (fun z => n (by rw [z]; exact List.mem_iff_getElem?.mpr ⟨k, hp⟩))]
    exact e
end
end Al
namespace Al
open PySem PySem.Spec PyProof.Rows L2

theorem _root_.L2.PE.imp {X : Cx} {e : Expr} {t t' : TE} (h : PE X e t) (i : ∀ σ H Q, t' σ H Q → t σ H Q) : PE X e t' := ⟨fun pins s σ H Q I q => h.run pins s σ H Q I (i σ H Q q)⟩
theorem _root_.L2.PT.imp {X : Cx} {e : Expr} {t t' : TT} (h : PT X e t) (i : ∀ σ H Q, t' σ H Q → t σ H Q) : PT X e t' := ⟨fun pins s σ H Q I q => h.run pins s σ H Q I (i σ H Q q)⟩
theorem _root_.L2.PW.imp {X : Cx} {e : Expr} {t t' : TT} (h : PW X e t) (i : ∀ σ H Q, t' σ H Q → t σ H Q) : PW X e t' := ⟨fun wh pins s σ H Q I q => h.run wh pins s σ H Q I (i σ H Q q)⟩
theorem _root_.L2.PA.imp {X : Cx} {es : List Expr} {t t' : TA} (h : PA X es t) (i : ∀ σ H Q, t' σ H Q → t σ H Q) : PA X es t' := ⟨fun pos pins s σ H Q I q => h.run pos pins s σ H Q I (i σ H Q q)⟩
theorem _root_.L2.PS.imp {X : Cx} {st : Stmt} {t t' : TS} (h : PS X st t) (i : ∀ D σ H, t' D σ H → t D σ H) : PS X st t' := ⟨fun pins s σ H D I q => h.run pins s σ H D I (i D σ H q)⟩
theorem _root_.L2.PSs.imp {X : Cx} {st : List Stmt} {t t' : TS} (h : PSs X st t) (i : ∀ D σ H, t' D σ H → t D σ H) : PSs X st t' := ⟨fun pins s σ H D I q => h.run pins s σ H D I (i D σ H q)⟩

/-- what stays fixed through a body: the classes' addresses, what an exception is to come to -/
structure Ct where
  ca : Str → Addr
  W : Value → Option Addr → L2.St → Hp → Prop
  kx : Str → List Str → List Da → En → Cells → Prop
def ExD (ca : Str → Addr) (K : PySem.W.Frag) (G H : Hp) (dd : Option Addr) (ks : List Str) (ds : List Da) : Prop :=
  (dd = none ∧ ks = [] ∧ ds = []) ∨ ∃ d fs, dd = some d ∧ H d = some (.xd fs) ∧ fs.map (·.1) = ks ∧ DnL ca K G (fs.map (·.2)) ds
def PostX (C : Ct) (K : PySem.W.Frag) (ps : List Addr) (G R : Hp) : Prop := ∀ c ks ds env cs ps' dd σ G' R' H', C.kx c ks ds env cs → Gr ps G R ps' G' R' → Rep C.ca K env cs ps' σ G' R' H' → ExD C.ca K G' H' dd ks ds → C.W (.ref (C.ca c)) dd σ H'
theorem PostX.on {C : Ct} {K : PySem.W.Frag} {ps ps' : List Addr} {G R G' R' : Hp} (p : PostX C K ps G R) (g : Gr ps G R ps' G' R') : PostX C K ps' G' R' :=
  fun c ks ds env cs ps2 dd σ G2 R2 H2 h g2 r e => p c ks ds env cs ps2 dd σ G2 R2 H2 h (g.trans g2) r e

abbrev KE := AV → Cells → Prop
def Post (ca : Str → Addr) (K : PySem.W.Frag) (env : En) (ps : List Addr) (σ : L2.St) (G R : Hp) (k : KE) (Q : VK) : Prop := ∀ a cs' w G' R' H', k a cs' → Gr ps G R ps G' R' → Rep ca K env cs' ps σ G' R' H' → AVok ca K G' ps w a → Q w H'
theorem Post.on {ca : Str → Addr} {K : PySem.W.Frag} {env : En} {ps : List Addr} {σ : L2.St} {G R G1 R1 : Hp} {k : KE} {Q : VK} (p : Post ca K env ps σ G R k Q) (g : Gr ps G R ps G1 R1) : Post ca K env ps σ G1 R1 k Q :=
  fun a cs' w G' R' H' h g2 r e => p a cs' w G' R' H' h (g.trans g2) r e
def tX (C : Ct) (K : PySem.W.Frag) (env : En) (cs : Cells) (k : KE) : TE := fun σ H Q => ∃ ps G R, Rep C.ca K env cs ps σ G R H ∧ PostX C K ps G R ∧ Post C.ca K env ps σ G R k Q
/-- the expression comes to what k takes -/
def AX (X : Cx) (C : Ct) (e : Expr) (env : En) (cs : Cells) (k : KE) : Prop := PE X e (tX C X.K env cs k)
abbrev KT := Bool → Cells → Prop
def tT (C : Ct) (K : PySem.W.Frag) (env : En) (cs : Cells) (k : KT) : TT := fun σ H Q => ∃ ps G R, Rep C.ca K env cs ps σ G R H ∧ PostX C K ps G R ∧ ∀ b cs' G' R' H', k b cs' → Gr ps G R ps G' R' → Rep C.ca K env cs' ps σ G' R' H' → Q b H'
def AT (X : Cx) (C : Ct) (e : Expr) (env : En) (cs : Cells) (k : KT) : Prop := PT X e (tT C X.K env cs k)
def AW (X : Cx) (C : Ct) (e : Expr) (env : En) (cs : Cells) (k : KT) : Prop := PW X e (tT C X.K env cs k)
def AVokL (ca : Str → Addr) (K : PySem.W.Frag) (G : Hp) (ps : List Addr) : List V → List AV → Prop
  | [], [] => True
  | w :: ws, a :: as => AVok ca K G ps w a ∧ AVokL ca K G ps ws as
  | _, _ => False
theorem AVokL.mono {ca : Str → Addr} {K : PySem.W.Frag} {G G' : Hp} {ps : List Addr} (e : Ex G G') : ∀ {ws : List V} {as : List AV}, AVokL ca K G ps ws as → AVokL ca K G' ps ws as
  | [], [], _ => trivial
  | w :: ws, a :: as, h => ⟨h.1.mono e (fun _ _ z => z), AVokL.mono e h.2⟩
  | [], _ :: _, h => h.elim
  | _ :: _, [], h => h.elim
theorem AVokL.ims {ca : Str → Addr} {K : PySem.W.Frag} {G : Hp} {ps : List Addr} : ∀ {ws : List V} {ds : List Da}, AVokL ca K G ps ws (ds.map AV.im) → DnL ca K G ws ds
  | [], [], _ => .nil
  | w :: ws, d :: ds, h => .cons h.1 (AVokL.ims h.2)
  | [], _ :: _, h => h.elim
  | _ :: _, [], h => h.elim
abbrev KA := List AV → Cells → Prop
def tA (C : Ct) (K : PySem.W.Frag) (env : En) (cs : Cells) (k : KA) : TA := fun σ H Q => ∃ ps G R, Rep C.ca K env cs ps σ G R H ∧ PostX C K ps G R ∧ ∀ as cs' ws G' R' H', k as cs' → Gr ps G R ps G' R' → Rep C.ca K env cs' ps σ G' R' H' → AVokL C.ca K G' ps ws as → Q ws H'
def AA (X : Cx) (C : Ct) (es : List Expr) (env : En) (cs : Cells) (k : KA) : Prop := PA X es (tA C X.K env cs k)

section
variable {X : Cx} {C : Ct} {env : En} {cs : Cells} {k : KE} {pos : Pos} {e a b c : Expr} {es : List Expr}

/-- one expression behind another one: the second's reading -/
def tX2 (X : Cx) (C : Ct) (b : Expr) (env : En) (k2 : AV → KE) : TE := fun σ H Q => ∃ x c1, AX X C b env c1 (k2 x) ∧ tX C X.K env c1 (k2 x) σ H Q
theorem pe_x2 {k2 : AV → KE} : PE X b (tX2 X C b env k2) := ⟨fun pins s σ H Q I ⟨x, c1, h, t⟩ => h.run pins s σ H Q I t⟩

/-! ### names, constants -/
theorem ax_var (i : Nat) {x : Str} {v : AV} (hN : X.N[i]? = some x) (hv : Vis X.env.scope x) (he : env[i]? = some (some v)) (h : k v cs) (hd : (x == ("__debug__" : Str)) = false := by decide) (hcd : (x == ("__classdict__" : Str)) = false := by decide) :
    AX X C (.Name x pos) env cs k := (pe_var hN hv hd hcd).imp fun σ H Q ⟨ps, G, R, r, px, q⟩ => by
  obtain ⟨w, h1, h2⟩ := r.sv i v he
  exact ⟨w, h1, q v cs w G R H h (Gr.refl ps G R) r h2⟩
theorem ax_int {i : Int} {j : Nat} (h : k (.im (.int i)) cs) : AX X C (.Constant (.int i) j pos) env cs k := pe_int.imp fun σ H Q ⟨ps, G, R, r, px, q⟩ => q _ cs _ G R H h (Gr.refl ps G R) r (.int i)
theorem ax_str {i : Str} {j : Nat} (h : k (.im (.str i)) cs) : AX X C (.Constant (.str i) j pos) env cs k := pe_str.imp fun σ H Q ⟨ps, G, R, r, px, q⟩ => q _ cs _ G R H h (Gr.refl ps G R) r (.str i)
theorem ax_bl {i : Bool} {j : Nat} (h : k (.im (.bl i)) cs) : AX X C (.Constant (.bool i) j pos) env cs k := pe_bl.imp fun σ H Q ⟨ps, G, R, r, px, q⟩ => q _ cs _ G R H h (Gr.refl ps G R) r (.bl i)
theorem ax_non {j : Nat} (h : k (.im .non) cs) : AX X C (.Constant .none j pos) env cs k := pe_non.imp fun σ H Q ⟨ps, G, R, r, px, q⟩ => q _ cs _ G R H h (Gr.refl ps G R) r .non
/-- a module's constant that is an int -/
theorem ax_gint {x : Str} {i : Int} {t : Tok} (hg : Gl X x) (hm : X.mg x = some (.int i t)) (h : k (.im (.int i)) cs) (hd : (x == ("__debug__" : Str)) = false := by decide) : AX X C (.Name x pos) env cs k :=
  (pe_glob hg hm (show RelV (.int i) _ from ⟨t, rfl⟩) hd).imp fun σ H Q ⟨ps, G, R, r, px, q⟩ => q _ cs _ G R H h (Gr.refl ps G R) r (.int i)

/-! ### operators by what they do to data -/
abbrev Sem2 := AV → AV → Cells → KE → Prop
def OpS (ca : Str → Addr) (K : PySem.W.Frag) (r : R2) (f : Sem2) : Prop := ∀ (env : En) (cs : Cells) (ps : List Addr) (σ : L2.St) (G R H : Hp) (x y : AV) (v u : V) (k : KE) (Q : VK), Rep ca K env cs ps σ G R H → AVok ca K G ps v x → AVok ca K G ps u y → f x y cs k → Post ca K env ps σ G R k Q → r v u H Q
theorem ax_bin {op : Operator} {r : R2} {f : Sem2} (ho : OpR X (binaryOp op) r) (hs : OpS C.ca X.K r f) (h : AX X C a env cs fun x c1 => AX X C b env c1 fun y c2 => f x y c2 k) : AX X C (.BinOp a op b pos) env cs k :=
  (pe_op ho h (pe_x2 (X := X) (C := C) (env := env) (k2 := fun x y c2 => f x y c2 k))).imp fun σ H Q ⟨ps, G, R, r, px, q⟩ =>
    ⟨ps, G, R, r, px, fun x c1 v G1 R1 H1 hk g1 r1 o1 => ⟨x, c1, hk, ps, G1, R1, r1, px.on g1, fun y c2 u G2 R2 H2 hf g2 r2 o2 => hs _ _ _ _ _ _ _ x y _ _ k Q r2 (o1.mono g2.ex fun _ _ z => z) o2 hf (q.on (g1.trans g2))⟩⟩
theorem ax_cmp {op : CmpOp} {r : R2} {f : Sem2} (ho : OpR X (compareOp op) r) (hs : OpS C.ca X.K r f) (hm : behindInMarks op b = false) (h : AX X C a env cs fun x c1 => AX X C b env c1 fun y c2 => f x y c2 k) : AX X C (.Compare a [op] [b] pos) env cs k :=
  (pe_cmpR ho h (pe_x2 (X := X) (C := C) (env := env) (k2 := fun x y c2 => f x y c2 k)) hm).imp fun σ H Q ⟨ps, G, R, r, px, q⟩ =>
    ⟨ps, G, R, r, px, fun x c1 v G1 R1 H1 hk g1 r1 o1 => ⟨x, c1, hk, ps, G1, R1, r1, px.on g1, fun y c2 u G2 R2 H2 hf g2 r2 o2 => hs _ _ _ _ _ _ _ x y _ _ k Q r2 (o1.mono g2.ex fun _ _ z => z) o2 hf (q.on (g1.trans g2))⟩⟩
theorem ax_sub {r : R2} {f : Sem2} (ho : IxR X r) (hs : OpS C.ca X.K r f) (h : AX X C a env cs fun x c1 => AX X C b env c1 fun y c2 => f x y c2 k) (hp : PlainIx b) : AX X C (.Subscript a b pos) env cs k :=
  (pe_ix ho h (pe_x2 (X := X) (C := C) (env := env) (k2 := fun x y c2 => f x y c2 k)) hp).imp fun σ H Q ⟨ps, G, R, r, px, q⟩ =>
    ⟨ps, G, R, r, px, fun x c1 v G1 R1 H1 hk g1 r1 o1 => ⟨x, c1, hk, ps, G1, R1, r1, px.on g1, fun y c2 u G2 R2 H2 hf g2 r2 o2 => hs _ _ _ _ _ _ _ x y _ _ k Q r2 (o1.mono g2.ex fun _ _ z => z) o2 hf (q.on (g1.trans g2))⟩⟩
theorem ax_un {op : UnaryOp} {g : Int → Int} (ho : UnR X (unaryOp op) (rU fun i => .int (g i))) (h : AX X C a env cs fun x c1 => ∃ i, x = .im (.int i) ∧ k (.im (.int (g i))) c1) : AX X C (.UnaryOp op a pos) env cs k :=
  (pe_un ho h).imp fun σ H Q ⟨ps, G, R, r, px, q⟩ =>
    ⟨ps, G, R, r, px, fun x c1 v G1 R1 H1 ⟨i, ex, hk⟩ g1 r1 o1 => by
      subst ex
      exact ⟨i, Dn.int_inv o1, q _ c1 _ G1 R1 H1 hk g1 r1 (.int _)⟩⟩
theorem Rep.same {ca : Str → Addr} {K : PySem.W.Frag} {env : En} {cs : Cells} {ps : List Addr} {σ : L2.St} {G R H : Hp} {k : KE} {Q : VK} {a : AV} {w : V} (r : Rep ca K env cs ps σ G R H) (q : Post ca K env ps σ G R k Q) (h : k a cs) (o : AVok ca K G ps w a) : Q w H := q a cs w G R H h (Gr.refl ps G R) r o
/-- a new tuple -/
theorem Rep.tup {ca : Str → Addr} {K : PySem.W.Frag} {env : En} {cs : Cells} {ps : List Addr} {σ : L2.St} {G R H : Hp} {k : KE} {Q : VK} {ds : List Da} {xs : List V} {p : Addr} (r : Rep ca K env cs ps σ G R H) (q : Post ca K env ps σ G R k Q) (h : k (.im (.tup ds)) cs) (o : DnL ca K G xs ds) (hp : H p = none) : Q (.ref p) (upd H p (.tup xs)) :=
  have e := Ex.new (o := HO.tup xs) (r.wd.freshG hp)
  q _ cs _ _ R _ h (Gr.data e) (r.newG hp) (.tup (.inl (.inl upd_same)) (o.mono e))
theorem Rep.lst {ca : Str → Addr} {K : PySem.W.Frag} {env : En} {cs : Cells} {ps : List Addr} {σ : L2.St} {G R H : Hp} {k : KE} {Q : VK} {ds : List Da} {xs : List V} {p : Addr} (r : Rep ca K env cs ps σ G R H) (q : Post ca K env ps σ G R k Q) (h : k (.im (.lst ds)) cs) (o : DnL ca K G xs ds) (hp : H p = none) : Q (.ref p) (upd H p (.lst xs)) :=
  have e := Ex.new (o := HO.lst xs) (r.wd.freshG hp)
  q _ cs _ _ R _ h (Gr.data e) (r.newG hp) (.lst upd_same (o.mono e))
theorem Dn.lst_inv {ca : Str → Addr} {K : PySem.W.Frag} {G : Hp} {v : V} {ds : List Da} (h : Dn ca K G v (.lst ds)) : ∃ p xs, v = .ref p ∧ G p = some (.lst xs) ∧ DnL ca K G xs ds := by
  cases h with
  | lst a b => exact ⟨_, _, rfl, a, b⟩
theorem Dn.tup_inv {ca : Str → Addr} {K : PySem.W.Frag} {G : Hp} {v : V} {ds : List Da} (h : Dn ca K G v (.tup ds)) : ∃ p xs, v = .ref p ∧ SqT K G p xs ∧ DnL ca K G xs ds := by
  cases h with
  | tup a b => exact ⟨_, _, rfl, a, b⟩
theorem Dn.scr_inv {ca : Str → Addr} {K : PySem.W.Frag} {G : Hp} {v : V} {ns : List Int} (h : Dn ca K G v (.scr ns)) : ∃ p, v = .ref p ∧ SqL K G p (ns.map V.int) := by
  cases h with
  | scr a => exact ⟨_, rfl, a⟩
theorem Wd.sqt {G R H : Hp} (w : Wd G R H) {K : PySem.W.Frag} {p : Addr} {xs : List V} (h : SqT K G p xs) : SqT K H p xs := Ex.sqt w.g h
theorem Wd.sql {G R H : Hp} (w : Wd G R H) {K : PySem.W.Frag} {p : Addr} {xs : List V} (h : SqL K G p xs) : SqL K H p xs := Ex.sql w.g h

/-- + : ints, texts, tuples, lists -/
def sAdd : Sem2 := fun x y cs k => match x, y with
  | .im (.int i), .im (.int j) => k (.im (.int (i + j))) cs
  | .im (.str i), .im (.str j) => i.length + j.length ≤ 100000 ∧ k (.im (.str (i ++ j))) cs
  | .im (.tup i), .im (.tup j) => i.length + j.length ≤ 100000 ∧ k (.im (.tup (i ++ j))) cs
  | .im (.lst i), .im (.lst j) => i.length + j.length ≤ 100000 ∧ k (.im (.lst (i ++ j))) cs
  | .ow n, .im (.lst j) => ∃ i, cs[n]? = some (some i) ∧ i.length + j.length ≤ 100000 ∧ k (.im (.lst (i ++ j))) cs
  | _, _ => False
def rAddA (K : PySem.W.Frag) : R2 := fun x y H Q => (((rI0 fun i j => .int (i + j)) x y H Q ∨ (∃ i j, x = .str i ∧ y = .str j ∧ i.length + j.length ≤ sizeLine ∧ Q (.str (i ++ j)) H)) ∨ rCatA K x y H Q) ∨ rCat x y H Q
theorem op_addA : OpR X (binaryOp .Add) (rAddA X.K) := OpR.or (OpR.or (OpR.or op_add op_add_str) op_catA) op_cat
theorem sz_of {n : Nat} (h : n ≤ 100000) : n ≤ sizeLine := Nat.le_trans h (by decide)
theorem sz_lt {n : Nat} (h : n < 100000) : n < sizeLine := Nat.lt_of_lt_of_le h (by decide)
theorem os_add {ca : Str → Addr} {K : PySem.W.Frag} : OpS ca K (rAddA K) sAdd := by
  intro env cs ps σ G R H x y v u k Q r ox oy h q
  unfold sAdd at h
  split at h
  · exact .inl (.inl (.inl ⟨_, _, Dn.int_inv ox, Dn.int_inv oy, r.same q h (.int _)⟩))
  · exact .inl (.inl (.inr ⟨_, _, Dn.str_inv ox, Dn.str_inv oy, sz_of h.1, r.same q h.2 (.str _)⟩))
  · obtain ⟨p, xs, e1, t1, l1⟩ := Dn.tup_inv ox
    obtain ⟨p2, ys, e2, t2, l2⟩ := Dn.tup_inv oy
    obtain ⟨h1, h2⟩ := h
    rename_i i j
    refine .inl (.inr ⟨p, p2, xs, ys, e1, e2, r.wd.sqt t1, r.wd.sqt t2, sz_of (by rw [l1.length, l2.length]; exact h1), fun e => ?_, fun n e => ?_, fun n1 n2 z hz => r.tup q h2 (l1.append l2) hz⟩)
    · subst e
      cases l1
      exact r.same q h2 (.tup t2 l2)
    · subst e
      cases l2
      rw [List.append_nil] at h2
      exact r.same q h2 (.tup t1 l1)
  · obtain ⟨p, xs, e1, t1, l1⟩ := Dn.lst_inv ox
    obtain ⟨p2, ys, e2, t2, l2⟩ := Dn.lst_inv oy
    obtain ⟨h1, h2⟩ := h
    exact .inr ⟨p, p2, xs, ys, e1, e2, r.wd.g _ _ t1, r.wd.g _ _ t2, sz_of (by rw [l1.length, l2.length]; exact h1), fun z hz => r.lst q h2 (l1.append l2) hz⟩
  · obtain ⟨i, hc, h1, h2⟩ := h
    obtain ⟨p, hp, e1⟩ := ox
    obtain ⟨xs, t1, l1⟩ := r.cell _ p i hp hc
    obtain ⟨p2, ys, e2, t2, l2⟩ := Dn.lst_inv oy
    exact .inr ⟨p, p2, xs, ys, e1, e2, r.wd.r _ _ t1, r.wd.g _ _ t2, sz_of (by rw [l1.length, l2.length]; exact h1), fun z hz => r.lst q h2 (l1.append l2) hz⟩
  · exact h.elim
theorem ax_add (h : AX X C a env cs fun x c1 => AX X C b env c1 fun y c2 => sAdd x y c2 k) : AX X C (.BinOp a .Add b pos) env cs k := ax_bin op_addA os_add h
def sInt (Cd : Int → Int → Prop) (g : Int → Int → Da) : Sem2 := fun x y cs k => match x, y with
  | .im (.int i), .im (.int j) => Cd i j ∧ k (.im (g i j)) cs
  | _, _ => False
theorem os_int {ca : Str → Addr} {K : PySem.W.Frag} {Cd : Int → Int → Prop} {g : Int → Int → Int} : OpS ca K (rI Cd fun i j => .int (g i j)) (sInt Cd fun i j => .int (g i j)) := by
  intro env cs ps σ G R H x y v u k Q r ox oy h q
  unfold sInt at h
  split at h
  · exact ⟨_, _, Dn.int_inv ox, Dn.int_inv oy, h.1, r.same q h.2 (.int _)⟩
  · exact h.elim
theorem os_int0 {ca : Str → Addr} {K : PySem.W.Frag} {g : Int → Int → Int} : OpS ca K (rI0 fun i j => .int (g i j)) (sInt (fun _ _ => True) fun i j => .int (g i j)) := by
  intro env cs ps σ G R H x y v u k Q r ox oy h q
  unfold sInt at h
  split at h
  · exact ⟨_, _, Dn.int_inv ox, Dn.int_inv oy, r.same q h.2 (.int _)⟩
  · exact h.elim
theorem os_intB {ca : Str → Addr} {K : PySem.W.Frag} {g : Int → Int → Bool} : OpS ca K (rI0 fun i j => .bl (g i j)) (sInt (fun _ _ => True) fun i j => .bl (g i j)) := by
  intro env cs ps σ G R H x y v u k Q r ox oy h q
  unfold sInt at h
  split at h
  · exact ⟨_, _, Dn.int_inv ox, Dn.int_inv oy, r.same q h.2 (.bl _)⟩
  · exact h.elim
theorem ax_minus (h : AX X C a env cs fun x c1 => AX X C b env c1 fun y c2 => sInt (fun _ _ => True) (fun i j => .int (i - j)) x y c2 k) : AX X C (.BinOp a .Sub b pos) env cs k := ax_bin op_sub os_int0 h
theorem ax_mod (h : AX X C a env cs fun x c1 => AX X C b env c1 fun y c2 => sInt (fun _ j => 0 < j) (fun i j => .int (i % j)) x y c2 k) : AX X C (.BinOp a .Mod b pos) env cs k := ax_bin op_mod os_int h
theorem ax_fdiv (h : AX X C a env cs fun x c1 => AX X C b env c1 fun y c2 => sInt CDiv (fun i j => .int (i / j)) x y c2 k) : AX X C (.BinOp a .FloorDiv b pos) env cs k := ax_bin op_fdiv os_int h
theorem ax_pow (h : AX X C a env cs fun x c1 => AX X C b env c1 fun y c2 => sInt CPow (fun i j => .int (i ^ j.toNat)) x y c2 k) : AX X C (.BinOp a .Pow b pos) env cs k := ax_bin op_pow os_int h
/-- * : ints, a tuple or a list and an int -/
def sMul : Sem2 := fun x y cs k => match x, y with
  | .im (.int i), .im (.int j) => CMul i j ∧ k (.im (.int (i * j))) cs
  | .im (.tup i), .im (.int j) => (i ≠ [] ∧ 2 ≤ j ∧ j ≤ 1000 ∧ i.length ≤ 1000) ∧ k (.im (.tup (List.replicate j.toNat i).flatten)) cs
  | .im (.lst i), .im (.int j) => (0 ≤ j ∧ j ≤ 1000 ∧ i.length ≤ 100) ∧ k (.im (.lst (List.replicate j.toNat i).flatten)) cs
  | _, _ => False
def rMulA (K : PySem.W.Frag) : R2 := fun x y H Q => ((rI CMul fun i j => .int (i * j)) x y H Q ∨ rRepT K x y H Q) ∨ rRep x y H Q
theorem op_mulA : OpR X (binaryOp .Mult) (rMulA X.K) := OpR.or (OpR.or op_mul op_repT) op_rep
theorem DnL.repl {ca : Str → Addr} {K : PySem.W.Frag} {G : Hp} {xs : List V} {ds : List Da} (h : DnL ca K G xs ds) : ∀ n : Nat, DnL ca K G (List.replicate n xs).flatten (List.replicate n ds).flatten
  | 0 => .nil
  | n + 1 => by
    rw [List.replicate_succ, List.replicate_succ, List.flatten_cons, List.flatten_cons]
    exact h.append (h.repl n)
theorem os_mul {ca : Str → Addr} {K : PySem.W.Frag} : OpS ca K (rMulA K) sMul := by
  intro env cs ps σ G R H x y v u k Q r ox oy h q
  unfold sMul at h
  split at h
  · exact .inl (.inl ⟨_, _, Dn.int_inv ox, Dn.int_inv oy, h.1, r.same q h.2 (.int _)⟩)
  · obtain ⟨p, xs, e1, t1, l1⟩ := Dn.tup_inv ox
    obtain ⟨⟨h1, h2, h3, h4⟩, h5⟩ := h
    refine .inl (.inr ⟨p, _, xs, e1, Dn.int_inv oy, r.wd.sqt t1, fun e => ?_, h2, h3, by rw [l1.length]; exact h4, fun z hz => r.tup q h5 (l1.repl _) hz⟩)
    subst e
    cases l1
    exact h1 rfl
  · obtain ⟨p, xs, e1, t1, l1⟩ := Dn.lst_inv ox
    obtain ⟨⟨h1, h2, h3⟩, h5⟩ := h
    rename_i i j
    refine .inr ⟨p, j, xs, e1, Dn.int_inv oy, r.wd.g _ _ t1, by omega, by omega, ?_, fun z hz => r.lst q h5 (l1.repl _) hz⟩
    rw [l1.length]
    refine Nat.le_trans (Nat.mul_le_mul h3 (show j.toNat ≤ 1000 by omega)) (by decide)
  · exact h.elim
theorem ax_mul (h : AX X C a env cs fun x c1 => AX X C b env c1 fun y c2 => sMul x y c2 k) : AX X C (.BinOp a .Mult b pos) env cs k := ax_bin op_mulA os_mul h
theorem ax_neg (h : AX X C a env cs fun x c1 => ∃ i, x = .im (.int i) ∧ k (.im (.int (-i))) c1) : AX X C (.UnaryOp .USub a pos) env cs k := ax_un un_neg h
/-! comparisons of ints, of texts -/
def sCmp (g : Int → Int → Bool) (gs : Str → Str → Bool) : Sem2 := fun x y cs k => match x, y with
  | .im (.int i), .im (.int j) => k (.im (.bl (g i j))) cs
  | .im (.str i), .im (.str j) => k (.im (.bl (gs i j))) cs
  | _, _ => False
theorem os_cmp {ca : Str → Addr} {K : PySem.W.Frag} {g : Int → Int → Bool} {gs : Str → Str → Bool} : OpS ca K (fun x y H Q => (rI0 fun i j => .bl (g i j)) x y H Q ∨ ∃ i j, x = .str i ∧ y = .str j ∧ Q (.bl (gs i j)) H) (sCmp g gs) := by
  intro env cs ps σ G R H x y v u k Q r ox oy h q
  unfold sCmp at h
  split at h
  · exact .inl ⟨_, _, Dn.int_inv ox, Dn.int_inv oy, r.same q h (.bl _)⟩
  · exact .inr ⟨_, _, Dn.str_inv ox, Dn.str_inv oy, r.same q h (.bl _)⟩
  · exact h.elim
def ltS (i j : Str) : Bool := decide (i.cps.toList < j.cps.toList)
abbrev sLt : Sem2 := sCmp (fun i j => decide (i < j)) ltS
abbrev sLe : Sem2 := sCmp (fun i j => decide (i ≤ j)) fun i j => !ltS j i
abbrev sGt : Sem2 := sCmp (fun i j => decide (j < i)) fun i j => ltS j i
abbrev sGe : Sem2 := sCmp (fun i j => decide (j ≤ i)) fun i j => !ltS i j
theorem op_ltA : OpR X (compareOp .Lt) (fun x y H Q => (rI0 fun i j => .bl (decide (i < j))) x y H Q ∨ ∃ i j, x = .str i ∧ y = .str j ∧ Q (.bl (ltS i j)) H) := OpR.or op_lt op_lt_str
theorem op_leA : OpR X (compareOp .LtE) (fun x y H Q => (rI0 fun i j => .bl (decide (i ≤ j))) x y H Q ∨ ∃ i j, x = .str i ∧ y = .str j ∧ Q (.bl (!ltS j i)) H) := OpR.or op_le op_le_str
theorem op_gtA : OpR X (compareOp .Gt) (fun x y H Q => (rI0 fun i j => .bl (decide (j < i))) x y H Q ∨ ∃ i j, x = .str i ∧ y = .str j ∧ Q (.bl (ltS j i)) H) := OpR.or op_gt op_gt_str
theorem op_geA : OpR X (compareOp .GtE) (fun x y H Q => (rI0 fun i j => .bl (decide (j ≤ i))) x y H Q ∨ ∃ i j, x = .str i ∧ y = .str j ∧ Q (.bl (!ltS i j)) H) := OpR.or op_ge op_ge_str
theorem ax_lt (h : AX X C a env cs fun x c1 => AX X C b env c1 fun y c2 => sLt x y c2 k) : AX X C (.Compare a [.Lt] [b] pos) env cs k := ax_cmp op_ltA os_cmp (nomark _) h
theorem ax_le (h : AX X C a env cs fun x c1 => AX X C b env c1 fun y c2 => sLe x y c2 k) : AX X C (.Compare a [.LtE] [b] pos) env cs k := ax_cmp op_leA os_cmp (nomark _) h
theorem ax_gt (h : AX X C a env cs fun x c1 => AX X C b env c1 fun y c2 => sGt x y c2 k) : AX X C (.Compare a [.Gt] [b] pos) env cs k := ax_cmp op_gtA os_cmp (nomark _) h
theorem ax_ge (h : AX X C a env cs fun x c1 => AX X C b env c1 fun y c2 => sGe x y c2 k) : AX X C (.Compare a [.GtE] [b] pos) env cs k := ax_cmp op_geA os_cmp (nomark _) h
end
end Al
namespace Al
open PySem PySem.Spec PyProof.Rows L2

section
variable {X : Cx} {C : Ct} {env : En} {cs : Cells} {k : KE} {kt : KT} {ka : KA} {pos : Pos} {e a b c : Expr} {es : List Expr}

/-! ### tests -/
def tT2 (X : Cx) (C : Ct) (b : Expr) (env : En) (k2 : Bool → KT) : TT := fun σ H Q => ∃ x c1, AT X C b env c1 (k2 x) ∧ tT C X.K env c1 (k2 x) σ H Q
theorem pt_t2 {k2 : Bool → KT} : PT X b (tT2 X C b env k2) := ⟨fun pins s σ H Q I ⟨x, c1, h, t⟩ => h.run pins s σ H Q I t⟩
/-- truth of a value -/
def truA : AV → Cells → (Bool → Prop) → Prop
  | .im .non, _, k => k false
  | .im (.bl b), _, k => k b
  | .im (.int i), _, k => k (i != 0)
  | .im (.str x), _, k => x.length ≤ 100000 ∧ k ((x.length : Int) != 0)
  | .im (.tup l), _, k => k !l.isEmpty
  | .im (.lst l), _, k => k !l.isEmpty
  | .im (.scr l), _, k => k !l.isEmpty
  | .im (.dic ks l), _, k => k !ks.isEmpty
  | .ow j, cs, k => ∃ ds, cs[j]? = some (some ds) ∧ k !ds.isEmpty
  | _, _, _ => False
theorem DnL.empty {ca : Str → Addr} {K : PySem.W.Frag} {G : Hp} {xs : List V} {ds : List Da} (h : DnL ca K G xs ds) : xs.isEmpty = ds.isEmpty := by
  cases h <;> rfl
theorem tru_of {ca : Str → Addr} {K : PySem.W.Frag} {env : En} {cs : Cells} {ps : List Addr} {σ : L2.St} {G R H : Hp} {x : AV} {v : V} {k : Bool → Prop} (r : Rep ca K env cs ps σ G R H) (o : AVok ca K G ps v x) (h : truA x cs k) : ∃ b, TruV K v H b ∧ k b := by
  cases x with
  | im d =>
    cases d with
    | non =>
      cases o
      exact ⟨false, rfl, h⟩
    | bl b =>
      cases o
      exact ⟨b, rfl, h⟩
    | int i =>
      cases o
      exact ⟨_, rfl, h⟩
    | str z =>
      cases o
      exact ⟨_, ⟨sz_of h.1, rfl⟩, h.2⟩
    | tup l =>
      obtain ⟨p, xs, rfl, t, dl⟩ := Dn.tup_inv o
      exact ⟨_, .inr (.inl ⟨xs, r.wd.sqt t, rfl⟩), by rw [dl.empty]; exact h⟩
    | lst l =>
      obtain ⟨p, xs, rfl, t, dl⟩ := Dn.lst_inv o
      exact ⟨_, .inl ⟨xs, .inl (.inl (r.wd.g _ _ t)), rfl⟩, by rw [dl.empty]; exact h⟩
    | scr l =>
      obtain ⟨p, rfl, t⟩ := Dn.scr_inv o
      exact ⟨_, .inl ⟨_, r.wd.sql t, rfl⟩, by rw [List.isEmpty_map]; exact h⟩
    | dic ks l =>
      cases o with
      | dic hg e hl =>
        refine ⟨_, .inr (.inr ⟨_, r.wd.g _ _ hg, rfl⟩), ?_⟩
        rename_i kvs
        have e2 : kvs.isEmpty = ks.isEmpty := by rw [← e, List.isEmpty_map]
        rw [e2]
        exact h
    | _ => exact (show False from h).elim
  | ow j =>
    obtain ⟨p, hp, rfl⟩ := o
    obtain ⟨ds, hc, h⟩ := h
    obtain ⟨vs, hR, dl⟩ := r.cell j p ds hp hc
    exact ⟨_, .inl ⟨vs, .inl (.inl (r.wd.r _ _ hR)), rfl⟩, by rw [dl.empty]; exact h⟩
/-- an expression as a test, by its truth -/
theorem at_tru (h : AX X C a env cs fun x c1 => truA x c1 fun b => kt b c1) (he : ∀ whole, isTrue a X.env whole = (do let v ← whole; standAt a.pos; holding [v] (truthy v)) := by intro _; rfl) : AT X C a env cs kt :=
  (pt_truth h he).imp fun σ H Q ⟨ps, G, R, r, px, q⟩ => ⟨ps, G, R, r, px, fun x c1 v G1 R1 H1 hk g1 r1 o1 => by
    obtain ⟨b, h1, h2⟩ := tru_of r1 o1 hk
    exact ⟨b, h1, q b c1 G1 R1 H1 h2 g1 r1⟩⟩
theorem at_cmpR {op : CmpOp} {r : R2} {f : Sem2} (ho : OpR X (compareOp op) r) (hs : OpS C.ca X.K r f) (hm : behindInMarks op b = false) (h : AX X C a env cs fun x c1 => AX X C b env c1 fun y c2 => f x y c2 fun v c3 => ∃ z, v = .im (.bl z) ∧ kt z c3) : AT X C (.Compare a [op] [b] pos) env cs kt :=
  (pt_cmpR ho h (pe_x2 (X := X) (C := C) (env := env) (k2 := fun x y c2 => f x y c2 fun v c3 => ∃ z, v = .im (.bl z) ∧ kt z c3)) hm).imp fun σ H Q ⟨ps, G, R, r, px, q⟩ =>
    ⟨ps, G, R, r, px, fun x c1 v G1 R1 H1 hk g1 r1 o1 => ⟨x, c1, hk, ps, G1, R1, r1, px.on g1, fun y c2 u G2 R2 H2 hf g2 r2 o2 => hs _ _ _ _ _ _ _ x y _ _ _ _ r2 (o1.mono g2.ex fun _ _ z => z) o2 hf fun z c3 w G3 R3 H3 ⟨bz, ez, hz⟩ g3 r3 o3 => by
      subst ez
      exact ⟨bz, Dn.bl_inv o3, q bz c3 G3 R3 H3 hz ((g1.trans g2).trans g3) r3⟩⟩⟩
theorem at_lt (h : AX X C a env cs fun x c1 => AX X C b env c1 fun y c2 => sLt x y c2 fun v c3 => ∃ z, v = .im (.bl z) ∧ kt z c3) : AT X C (.Compare a [.Lt] [b] pos) env cs kt := at_cmpR op_ltA os_cmp (nomark _) h
theorem at_le (h : AX X C a env cs fun x c1 => AX X C b env c1 fun y c2 => sLe x y c2 fun v c3 => ∃ z, v = .im (.bl z) ∧ kt z c3) : AT X C (.Compare a [.LtE] [b] pos) env cs kt := at_cmpR op_leA os_cmp (nomark _) h
theorem at_gt (h : AX X C a env cs fun x c1 => AX X C b env c1 fun y c2 => sGt x y c2 fun v c3 => ∃ z, v = .im (.bl z) ∧ kt z c3) : AT X C (.Compare a [.Gt] [b] pos) env cs kt := at_cmpR op_gtA os_cmp (nomark _) h
theorem at_ge (h : AX X C a env cs fun x c1 => AX X C b env c1 fun y c2 => sGe x y c2 fun v c3 => ∃ z, v = .im (.bl z) ∧ kt z c3) : AT X C (.Compare a [.GtE] [b] pos) env cs kt := at_cmpR op_geA os_cmp (nomark _) h
theorem at_not (h : AT X C a env cs fun z c1 => kt (!z) c1) : AT X C (.UnaryOp .Not a pos) env cs kt :=
  (pt_not h).imp fun σ H Q ⟨ps, G, R, r, px, q⟩ => ⟨ps, G, R, r, px, fun z c1 G1 R1 H1 hk g1 r1 => q _ c1 G1 R1 H1 hk g1 r1⟩
theorem aw_at (h : AW X C a env cs kt) : AT X C a env cs kt := PW.pt h
def tW2 (X : Cx) (C : Ct) (b : Expr) (env : En) (k2 : KT) : TT := fun σ H Q => ∃ c1, AW X C b env c1 k2 ∧ tT C X.K env c1 k2 σ H Q
theorem pw_w2 {k2 : KT} : PW X b (tW2 X C b env k2) := ⟨fun wh pins s σ H Q I ⟨c1, h, t⟩ => h.run wh pins s σ H Q I t⟩
theorem aw_and1 (h : AT X C a env cs kt) : AW X C (.BoolOp .And [a] pos) env cs kt := pw_and1 h
theorem aw_or1 (h : AT X C a env cs kt) : AW X C (.BoolOp .Or [a] pos) env cs kt := pw_or1 h
theorem aw_and {rest : List Expr} (h : AT X C a env cs fun z c1 => (z = true → AW X C (.BoolOp .And (b :: rest) pos) env c1 kt) ∧ (z = false → kt false c1)) : AW X C (.BoolOp .And (a :: b :: rest) pos) env cs kt :=
  (pw_and h (pw_w2 (X := X) (C := C) (env := env) (k2 := kt))).imp fun σ H Q ⟨ps, G, R, r, px, q⟩ => ⟨ps, G, R, r, px, fun z c1 G1 R1 H1 hk g1 r1 => by
    cases z with
    | true => exact iteT ⟨c1, hk.1 rfl, ps, G1, R1, r1, px.on g1, fun b c2 G2 R2 H2 h2 g2 r2 => q b c2 G2 R2 H2 h2 (g1.trans g2) r2⟩
    | false => exact iteF (q false c1 G1 R1 H1 (hk.2 rfl) g1 r1)⟩
theorem aw_or {rest : List Expr} (h : AT X C a env cs fun z c1 => (z = true → kt true c1) ∧ (z = false → AW X C (.BoolOp .Or (b :: rest) pos) env c1 kt)) : AW X C (.BoolOp .Or (a :: b :: rest) pos) env cs kt :=
  (pw_or h (pw_w2 (X := X) (C := C) (env := env) (k2 := kt))).imp fun σ H Q ⟨ps, G, R, r, px, q⟩ => ⟨ps, G, R, r, px, fun z c1 G1 R1 H1 hk g1 r1 => by
    cases z with
    | true => exact iteT (q true c1 G1 R1 H1 (hk.1 rfl) g1 r1)
    | false => exact iteF ⟨c1, hk.2 rfl, ps, G1, R1, r1, px.on g1, fun b c2 G2 R2 H2 h2 g2 r2 => q b c2 G2 R2 H2 h2 (g1.trans g2) r2⟩⟩
/-! values -/
theorem ax_one {op : BoolOp} (h : AX X C a env cs k) : AX X C (.BoolOp op [a] pos) env cs k := pe_one h
theorem ax_and {rest : List Expr} (h : AX X C a env cs fun x c1 => ∃ z, x = .im (.bl z) ∧ (z = true → AX X C (.BoolOp .And (b :: rest) pos) env c1 k) ∧ (z = false → k (.im (.bl false)) c1)) : AX X C (.BoolOp .And (a :: b :: rest) pos) env cs k :=
  (pe_and h (pe_x2 (X := X) (C := C) (env := env) (k2 := fun _ => k))).imp fun σ H Q ⟨ps, G, R, r, px, q⟩ => ⟨ps, G, R, r, px, fun x c1 v G1 R1 H1 ⟨z, ex, hk⟩ g1 r1 o1 => by
    subst ex
    refine ⟨z, Dn.bl_inv o1, ?_⟩
    cases z with
    | true => exact iteT ⟨.im .non, c1, hk.1 rfl, ps, G1, R1, r1, px.on g1, q.on g1⟩
    | false => exact iteF (q _ c1 _ G1 R1 H1 (hk.2 rfl) g1 r1 (.bl false))⟩
theorem ax_or {rest : List Expr} (h : AX X C a env cs fun x c1 => ∃ z, x = .im (.bl z) ∧ (z = true → k (.im (.bl true)) c1) ∧ (z = false → AX X C (.BoolOp .Or (b :: rest) pos) env c1 k)) : AX X C (.BoolOp .Or (a :: b :: rest) pos) env cs k :=
  (pe_or h (pe_x2 (X := X) (C := C) (env := env) (k2 := fun _ => k))).imp fun σ H Q ⟨ps, G, R, r, px, q⟩ => ⟨ps, G, R, r, px, fun x c1 v G1 R1 H1 ⟨z, ex, hk⟩ g1 r1 o1 => by
    subst ex
    refine ⟨z, Dn.bl_inv o1, ?_⟩
    cases z with
    | true => exact iteT (q _ c1 _ G1 R1 H1 (hk.1 rfl) g1 r1 (.bl true))
    | false => exact iteF ⟨.im .non, c1, hk.2 rfl, ps, G1, R1, r1, px.on g1, q.on g1⟩⟩
theorem ax_not (h : AX X C a env cs fun x c1 => ∃ z, x = .im (.bl z) ∧ k (.im (.bl (!z))) c1) : AX X C (.UnaryOp .Not a pos) env cs k :=
  (pe_not h).imp fun σ H Q ⟨ps, G, R, r, px, q⟩ => ⟨ps, G, R, r, px, fun x c1 v G1 R1 H1 ⟨z, ex, hk⟩ g1 r1 o1 => by
    subst ex
    exact ⟨z, Dn.bl_inv o1, q _ c1 _ G1 R1 H1 hk g1 r1 (.bl _)⟩⟩
theorem ax_if (h : AT X C c env cs fun z c1 => (z = true → AX X C a env c1 k) ∧ (z = false → AX X C b env c1 k)) : AX X C (.IfExp c a b pos) env cs k :=
  (pe_ifExp h (pe_x2 (X := X) (C := C) (env := env) (k2 := fun _ => k)) (pe_x2 (X := X) (C := C) (env := env) (k2 := fun _ => k))).imp fun σ H Q ⟨ps, G, R, r, px, q⟩ => ⟨ps, G, R, r, px, fun z c1 G1 R1 H1 hk g1 r1 => by
    cases z with
    | true => exact iteT ⟨.im .non, c1, hk.1 rfl, ps, G1, R1, r1, px.on g1, q.on g1⟩
    | false => exact iteF ⟨.im .non, c1, hk.2 rfl, ps, G1, R1, r1, px.on g1, q.on g1⟩⟩

/-! ### arguments, displays -/
def tA2 (X : Cx) (C : Ct) (es : List Expr) (env : En) (k2 : AV → KA) : TA := fun σ H Q => ∃ x c1, AA X C es env c1 (k2 x) ∧ tA C X.K env c1 (k2 x) σ H Q
theorem pa_a2 {k2 : AV → KA} : PA X es (tA2 X C es env k2) := ⟨fun pos pins s σ H Q I ⟨x, c1, h, t⟩ => h.run pos pins s σ H Q I t⟩
theorem aa_nil (h : ka [] cs) : AA X C [] env cs ka := pa_nil.imp fun σ H Q ⟨ps, G, R, r, px, q⟩ => q [] cs [] G R H h (Gr.refl ps G R) r trivial
theorem aa_cons (h : AX X C e env cs fun x c1 => AA X C es env c1 fun xs c2 => ka (x :: xs) c2) (hs : starEach (e :: es) X.env = (false, eval e X.env) :: starEach es X.env := by rfl) : AA X C (e :: es) env cs ka :=
  (pa_cons h (pa_a2 (X := X) (C := C) (env := env) (k2 := fun x xs c2 => ka (x :: xs) c2)) hs).imp fun σ H Q ⟨ps, G, R, r, px, q⟩ => ⟨ps, G, R, r, px, fun x c1 v G1 R1 H1 hk g1 r1 o1 =>
    ⟨x, c1, hk, ps, G1, R1, r1, px.on g1, fun xs c2 ws G2 R2 H2 hk2 g2 r2 o2 => q (x :: xs) c2 (v :: ws) G2 R2 H2 hk2 (g1.trans g2) r2 ⟨o1.mono g2.ex fun _ _ z => z, o2⟩⟩⟩
/-- all data -/
def imL : List AV → (List Da → Prop) → Prop
  | [], k => k []
  | .im d :: as, k => imL as fun ds => k (d :: ds)
  | .ow _ :: _, _ => False
theorem imL_of : ∀ {as : List AV} {k : List Da → Prop}, imL as k → ∃ ds, as = ds.map AV.im ∧ k ds
  | [], k, h => ⟨[], rfl, h⟩
  | .im d :: as, k, h => by
    obtain ⟨ds, e, q⟩ := imL_of (as := as) h
    exact ⟨d :: ds, by rw [e]; rfl, q⟩
  | .ow _ :: _, _, h => h.elim
theorem ax_tup {j : Nat} (h : AA X C es env cs fun as c1 => imL as fun ds => ds.length ≤ 100000 ∧ k (.im (.tup ds)) c1) : AX X C (.Tuple es j pos) env cs k :=
  (pe_tup h).imp fun σ H Q ⟨ps, G, R, r, px, q⟩ => ⟨ps, G, R, r, px, fun as c1 ws G1 R1 H1 hk g1 r1 o1 => by
    obtain ⟨ds, e, hl, hk2⟩ := imL_of hk
    subst e
    have dl := AVokL.ims o1
    exact ⟨sz_of (by rw [dl.length]; exact hl), fun p hp => r1.tup (q.on g1) hk2 dl hp⟩⟩
theorem ax_lst (h : AA X C es env cs fun as c1 => imL as fun ds => ds.length ≤ 100000 ∧ k (.im (.lst ds)) c1) : AX X C (.List es pos) env cs k :=
  (pe_lst h).imp fun σ H Q ⟨ps, G, R, r, px, q⟩ => ⟨ps, G, R, r, px, fun as c1 ws G1 R1 H1 hk g1 r1 o1 => by
    obtain ⟨ds, e, hl, hk2⟩ := imL_of hk
    subst e
    have dl := AVokL.ims o1
    exact ⟨sz_of (by rw [dl.length]; exact hl), fun p hp => r1.lst (q.on g1) hk2 dl hp⟩⟩

/-! ### subscripts -/
def sIx : Sem2 := fun x y cs k => match x, y with
  | .im (.lst l), .im (.int i) => ∃ d, atI l i = some d ∧ k (.im d) cs
  | .im (.tup l), .im (.int i) => ∃ d, atI l i = some d ∧ k (.im d) cs
  | .im (.scr l), .im (.int i) => ∃ d, atI l i = some d ∧ k (.im (.int d)) cs
  | .im (.str z), .im (.int i) => z.length ≤ 100000 ∧ ∃ d, atI z.cps.toList i = some d ∧ k (.im (.str ⟨#[d]⟩)) cs
  | .ow j, .im (.int i) => ∃ ds d, cs[j]? = some (some ds) ∧ atI ds i = some d ∧ k (.im d) cs
  | _, _ => False
theorem atI_dn {ca : Str → Addr} {K : PySem.W.Frag} {G : Hp} {xs : List V} {ds : List Da} {i : Int} {d : Da} (h : DnL ca K G xs ds) (e : atI ds i = some d) : ∃ v, atI xs i = some v ∧ Dn ca K G v d := by
  unfold atI at e ⊢
  rw [h.length]
  cases q : ixN ds.length i with
  | none =>
    rw [q] at e
    cases e
  | some j =>
    rw [q] at e
    exact h.get (i := j) e
theorem atI_map {α β : Type} {f : α → β} {l : List α} {i : Int} {d : α} (e : atI l i = some d) : atI (l.map f) i = some (f d) := by
  unfold atI at e ⊢
  rw [List.length_map]
  cases q : ixN l.length i with
  | none =>
    rw [q] at e
    cases e
  | some j =>
    rw [q] at e
    show (l.map f)[j]? = some (f d)
    have e' : l[j]? = some d := e
    rw [List.getElem?_map, e']
    rfl
theorem os_ix {ca : Str → Addr} {K : PySem.W.Frag} : OpS ca K (rIx K) sIx := by
  intro env cs ps σ G R H x y v u k Q r ox oy h q
  unfold sIx at h
  split at h
  · obtain ⟨p, xs, e1, t1, l1⟩ := Dn.lst_inv ox
    obtain ⟨d, ha, hk⟩ := h
    obtain ⟨w, hw, ow⟩ := atI_dn l1 ha
    exact .inl ⟨p, xs, _, w, e1, Dn.int_inv oy, .inl (.inl (r.wd.g _ _ t1)), hw, r.same q hk ow⟩
  · obtain ⟨p, xs, e1, t1, l1⟩ := Dn.tup_inv ox
    obtain ⟨d, ha, hk⟩ := h
    obtain ⟨w, hw, ow⟩ := atI_dn l1 ha
    exact .inr (.inl ⟨p, xs, _, w, e1, Dn.int_inv oy, r.wd.sqt t1, hw, r.same q hk ow⟩)
  · obtain ⟨p, e1, t1⟩ := Dn.scr_inv ox
    obtain ⟨d, ha, hk⟩ := h
    exact .inl ⟨p, _, _, .int d, e1, Dn.int_inv oy, r.wd.sql t1, atI_map ha, r.same q hk (.int d)⟩
  · obtain ⟨hz, d, ha, hk⟩ := h
    exact .inr (.inr ⟨_, _, d, Dn.str_inv ox, Dn.int_inv oy, sz_of hz, ha, r.same q hk (.str _)⟩)
  · obtain ⟨p, hp, e1⟩ := ox
    obtain ⟨ds, d, hc, ha, hk⟩ := h
    obtain ⟨vs, hR, dl⟩ := r.cell _ p ds hp hc
    obtain ⟨w, hw, ow⟩ := atI_dn dl ha
    exact .inl ⟨p, vs, _, w, e1, Dn.int_inv oy, .inl (.inl (r.wd.r _ _ hR)), hw, r.same q hk ow⟩
  · exact h.elim
theorem ax_ix (h : AX X C a env cs fun x c1 => AX X C b env c1 fun y c2 => sIx x y c2 k) (hp : PlainIx b := by intro _ _; rfl) : AX X C (.Subscript a b pos) env cs k := ax_sub ix_seq os_ix h hp
end

/-! ### statements -/
/-- what a statement is to come to -/
structure Pst where
  nx : En → Cells → Prop
  rt : AV → Cells → Prop
  bk : En → Cells → Prop := fun _ _ => False
  ct : En → Cells → Prop := fun _ _ => False
def PostS (ca : Str → Addr) (K : PySem.W.Frag) (ps : List Addr) (G R : Hp) (k : En → Cells → Prop) (Q : L2.St → Hp → Prop) : Prop := ∀ env' cs' ps' σ' G' R' H', k env' cs' → Gr ps G R ps' G' R' → Rep ca K env' cs' ps' σ' G' R' H' → Q σ' H'
theorem PostS.on {ca : Str → Addr} {K : PySem.W.Frag} {ps ps1 : List Addr} {G R G1 R1 : Hp} {k : En → Cells → Prop} {Q : L2.St → Hp → Prop} (p : PostS ca K ps G R k Q) (g : Gr ps G R ps1 G1 R1) : PostS ca K ps1 G1 R1 k Q :=
  fun e c ps2 σ G2 R2 H2 h g2 r => p e c ps2 σ G2 R2 H2 h (g.trans g2) r
def PostR (ca : Str → Addr) (K : PySem.W.Frag) (ps : List Addr) (G R : Hp) (k : AV → Cells → Prop) (Q : VK) : Prop := ∀ a env' cs' ps' σ' v G' R' H', k a cs' → Gr ps G R ps' G' R' → Rep ca K env' cs' ps' σ' G' R' H' → AVok ca K G' ps' v a → Q v H'
theorem PostR.on {ca : Str → Addr} {K : PySem.W.Frag} {ps ps1 : List Addr} {G R G1 R1 : Hp} {k : AV → Cells → Prop} {Q : VK} (p : PostR ca K ps G R k Q) (g : Gr ps G R ps1 G1 R1) : PostR ca K ps1 G1 R1 k Q :=
  fun a e c ps2 σ v G2 R2 H2 h g2 r o => p a e c ps2 σ v G2 R2 H2 h (g.trans g2) r o
structure PostE (ca : Str → Addr) (K : PySem.W.Frag) (ps : List Addr) (G R : Hp) (P : Pst) (D : Ends) : Prop where
  nx : PostS ca K ps G R P.nx D.nx
  rt : PostR ca K ps G R P.rt D.rt
  bk : PostS ca K ps G R P.bk D.bk
  ct : PostS ca K ps G R P.ct D.ct
theorem PostE.on {ca : Str → Addr} {K : PySem.W.Frag} {ps ps1 : List Addr} {G R G1 R1 : Hp} {P : Pst} {D : Ends} (p : PostE ca K ps G R P D) (g : Gr ps G R ps1 G1 R1) : PostE ca K ps1 G1 R1 P D := ⟨p.nx.on g, p.rt.on g, p.bk.on g, p.ct.on g⟩
def tS (C : Ct) (K : PySem.W.Frag) (env : En) (cs : Cells) (P : Pst) : TS := fun D σ H => ∃ ps G R, Rep C.ca K env cs ps σ G R H ∧ PostX C K ps G R ∧ PostE C.ca K ps G R P D
def AS (X : Cx) (C : Ct) (st : Stmt) (env : En) (cs : Cells) (P : Pst) : Prop := PS X st (tS C X.K env cs P)
def AB (X : Cx) (C : Ct) (st : List Stmt) (env : En) (cs : Cells) (P : Pst) : Prop := PSs X st (tS C X.K env cs P)
section
variable {X : Cx} {C : Ct} {env : En} {cs : Cells} {P : Pst} {pos : Pos} {e a b c : Expr} {es : List Expr} {st : Stmt} {rest body orelse : List Stmt}
def tB2 (X : Cx) (C : Ct) (st : List Stmt) (P : Pst) : TS := fun D σ H => ∃ env c1, AB X C st env c1 P ∧ tS C X.K env c1 P D σ H
theorem ps_b2 {st : List Stmt} : PSs X st (tB2 X C st P) := ⟨fun pins s σ H D I ⟨x, c1, h, t⟩ => h.run pins s σ H D I t⟩
theorem ab_nil (h : P.nx env cs) : AB X C [] env cs P := pss_nil.imp fun D σ H ⟨ps, G, R, r, px, q⟩ => q.nx env cs ps σ G R H h (Gr.refl ps G R) r
theorem ab_cons (h : AS X C st env cs { P with nx := fun env1 c1 => AB X C rest env1 c1 P }) : AB X C (st :: rest) env cs P :=
  (pss_cons h (ps_b2 (X := X) (C := C) (P := P))).imp fun D σ H ⟨ps, G, R, r, px, q⟩ => ⟨ps, G, R, r, px, fun env1 c1 ps1 σ1 G1 R1 H1 h1 g1 r1 => ⟨env1, c1, h1, ps1, G1, R1, r1, px.on g1, q.on g1⟩, q.rt, q.bk, q.ct⟩
theorem ab_one (h : AS X C st env cs P) : AB X C [st] env cs P := pss_one h
theorem as_pass (h : P.nx env cs) : AS X C (.Pass pos) env cs P := ps_pass.imp fun D σ H ⟨ps, G, R, r, px, q⟩ => q.nx env cs ps σ G R H h (Gr.refl ps G R) r
theorem as_break (h : P.bk env cs) : AS X C (.Break pos) env cs P := ps_break.imp fun D σ H ⟨ps, G, R, r, px, q⟩ => q.bk env cs ps σ G R H h (Gr.refl ps G R) r
theorem as_continue (h : P.ct env cs) : AS X C (.Continue pos) env cs P := ps_continue.imp fun D σ H ⟨ps, G, R, r, px, q⟩ => q.ct env cs ps σ G R H h (Gr.refl ps G R) r
theorem as_expr (h : AX X C e env cs fun _ c1 => P.nx env c1) (hs : swapsWith e none pos.line X.env = pure false := by rfl) : AS X C (.Expr e pos) env cs P :=
  (ps_expr h hs).imp fun D σ H ⟨ps, G, R, r, px, q⟩ => ⟨ps, G, R, r, px, fun a c1 w G1 R1 H1 h1 g1 r1 o1 => q.nx env c1 ps σ G1 R1 H1 h1 g1 r1⟩
theorem as_ret (h : AX X C e env cs P.rt) : AS X C (.Return (some e) pos) env cs P :=
  (ps_ret h).imp fun D σ H ⟨ps, G, R, r, px, q⟩ => ⟨ps, G, R, r, px, fun a c1 w G1 R1 H1 h1 g1 r1 o1 => q.rt a env c1 ps σ w G1 R1 H1 h1 g1 r1 o1⟩
theorem as_if (h : AT X C c env cs fun z c1 => (z = true → AB X C body env c1 P) ∧ (z = false → AB X C orelse env c1 P)) : AS X C (.If c body orelse pos) env cs P :=
  (ps_if h (ps_b2 (X := X) (C := C) (P := P)) (ps_b2 (X := X) (C := C) (P := P))).imp fun D σ H ⟨ps, G, R, r, px, q⟩ => ⟨ps, G, R, r, px, fun z c1 G1 R1 H1 hk g1 r1 => by
    cases z with
    | true => exact iteT ⟨env, c1, hk.1 rfl, ps, G1, R1, r1, px.on g1, q.on g1⟩
    | false => exact iteF ⟨env, c1, hk.2 rfl, ps, G1, R1, r1, px.on g1, q.on g1⟩⟩
/-- name = e -/
theorem as_set (i : Nat) {x : Str} {pos' : Pos} (hN : X.N.Nodup) (hi : X.N[i]? = some x) (hx : Loc X.env.scope x) (hl : i < env.length) (h : AX X C e env cs fun a c1 => P.nx (env.set i (some a)) c1)
    (hs : swapsWith e (some (.Name x pos')) pos.line X.env = pure false := by rfl) (hf : X.fn x = true ∨ X.env.scope.names.lookup x = some .local := by first | exact .inl rfl | exact .inr rfl | assumption) : AS X C (.Assign [.Name x pos'] e pos) env cs P :=
  (ps_set hN hi hx h hs hf).imp fun D σ H ⟨ps, G, R, r, px, q⟩ => ⟨ps, G, R, r, px, fun a c1 w G1 R1 H1 h1 g1 r1 o1 => q.nx _ c1 ps _ G1 R1 H1 h1 g1 (r1.setE o1 hl)⟩
/-- a fresh list: e comes to a list that nothing else knows -/
abbrev KL := List Da → Cells → Prop
def tL (C : Ct) (K : PySem.W.Frag) (env : En) (cs : Cells) (k : KL) : TE := fun σ H Q => ∃ ps G R, Rep C.ca K env cs ps σ G R H ∧ PostX C K ps G R ∧ ∀ ds c1 p vs G1 R1 H1, k ds c1 → Gr ps G R ps G1 R1 → Rep C.ca K env c1 ps σ G1 R1 H1 → H1 p = none → DnL C.ca K G1 vs ds → Q (.ref p) (upd H1 p (.lst vs))
def AL (X : Cx) (C : Ct) (e : Expr) (env : En) (cs : Cells) (k : KL) : Prop := PE X e (tL C X.K env cs k)
theorem al_lst {k : KL} (h : AA X C es env cs fun as c1 => imL as fun ds => ds.length ≤ 100000 ∧ k ds c1) : AL X C (.List es pos) env cs k :=
  (pe_lst h).imp fun σ H Q ⟨ps, G, R, r, px, q⟩ => ⟨ps, G, R, r, px, fun as c1 ws G1 R1 H1 hk g1 r1 o1 => by
    obtain ⟨ds, e, hl, hk2⟩ := imL_of hk
    subst e
    have dl := AVokL.ims o1
    exact ⟨sz_of (by rw [dl.length]; exact hl), fun p hp => q ds c1 p ws G1 R1 H1 hk2 g1 r1 hp dl⟩⟩
/-- as data -/
theorem ax_al {k : KE} (h : AL X C e env cs fun ds c1 => k (.im (.lst ds)) c1) : AX X C e env cs k :=
  PE.imp h fun σ H Q ⟨ps, G, R, r, px, q⟩ => ⟨ps, G, R, r, px, fun ds c1 p vs G1 R1 H1 hk g1 r1 hp dl => r1.lst (q.on g1) hk dl hp⟩
/-- name = a fresh list: a new cell -/
theorem as_cell (i : Nat) {x : Str} {pos' : Pos} (hN : X.N.Nodup) (hi : X.N[i]? = some x) (hx : Loc X.env.scope x) (hl : i < env.length) (h : AL X C e env cs fun ds c1 => P.nx (env.set i (some (.ow c1.length))) (c1 ++ [some ds]))
    (hs : swapsWith e (some (.Name x pos')) pos.line X.env = pure false := by rfl) (hf : X.fn x = true ∨ X.env.scope.names.lookup x = some .local := by first | exact .inl rfl | exact .inr rfl | assumption) : AS X C (.Assign [.Name x pos'] e pos) env cs P :=
  (ps_set hN hi hx h hs hf).imp fun D σ H ⟨ps, G, R, r, px, q⟩ => ⟨ps, G, R, r, px, fun ds c1 p vs G1 R1 H1 h1 g1 r1 hp dl => by
    have r2 := r1.newC hp dl
    exact q.nx _ _ (ps ++ [p]) _ G1 _ _ h1 (g1.trans (Gr.newC r1 hp)) (r2.setE (a := .ow c1.length) ⟨p, by rw [← r1.len, List.getElem?_append_right (Nat.le_refl _), Nat.sub_self]; rfl, rfl⟩ hl)⟩
/-- what the cell k was is data from now on -/
theorem ab_frz (k : Nat) (ds : List Da) {sts : List Stmt} (hc : cs[k]? = some (some ds)) (h : AB X C sts (env.map (thaw k (.lst ds))) (cs.set k none) P) : AB X C sts env cs P :=
  PSs.imp h fun D σ H ⟨ps, G, R, r, px, q⟩ => by
    have hk : k < ps.length := by
      rw [r.len]
      exact (List.getElem?_eq_some_iff.mp hc).1
    obtain ⟨vs, r2, g2, _⟩ := r.frz (List.getElem?_eq_getElem hk) hc
    exact ⟨ps, _, _, r2, px.on g2, q.on g2⟩
theorem ab_imp {P' : Pst} {sts : List Stmt} (h : AB X C sts env cs P') (i1 : ∀ e c, P'.nx e c → P.nx e c) (i2 : ∀ a c, P'.rt a c → P.rt a c) (i3 : ∀ e c, P'.bk e c → P.bk e c) (i4 : ∀ e c, P'.ct e c → P.ct e c) : AB X C sts env cs P :=
  PSs.imp h fun D σ H ⟨ps, G, R, r, px, q⟩ => ⟨ps, G, R, r, px, fun e c ps2 σ G2 R2 H2 h g2 r2 => q.nx e c ps2 σ G2 R2 H2 (i1 e c h) g2 r2, fun a e c ps2 σ v G2 R2 H2 h g2 r2 o => q.rt a e c ps2 σ v G2 R2 H2 (i2 a c h) g2 r2 o,
    fun e c ps2 σ G2 R2 H2 h g2 r2 => q.bk e c ps2 σ G2 R2 H2 (i3 e c h) g2 r2, fun e c ps2 σ G2 R2 H2 h g2 r2 => q.ct e c ps2 σ G2 R2 H2 (i4 e c h) g2 r2⟩
/-- o[i] = e, o a cell -/
theorem as_item {o i : Expr} {pos' : Pos} (h : AX X C e env cs fun x c1 => AX X C o env c1 fun y c2 => AX X C i env c2 fun z c3 => ∃ d j n ds m, x = .im d ∧ y = .ow j ∧ z = .im (.int n) ∧ c3[j]? = some (some ds) ∧ ixN ds.length n = some m ∧ P.nx env (c3.set j (some (ds.set m d))))
    (ha : ∀ v, assign (.Subscript o i pos') X.env v = (do
      let ov ← holding [v] (eval o X.env)
      let iv ← holding [v, ov] (eval i X.env)
      standAt pos'
      holding [v, ov, iv] (setItem ov iv v)
      release [v, ov, iv] []) := by intro _; rfl) (hs : swapsWithSole [.Subscript o i pos'] e pos.line X.env = pure false := by rfl) (hw : swappedStores [.Subscript o i pos'] e X.env = pure none := by rfl)
    (h1 : (assignEach [.Subscript o i pos'] X.env).map (·.2) = [assign (.Subscript o i pos') X.env] := by rfl) : AS X C (.Assign [.Subscript o i pos'] e pos) env cs P := by
  refine (ps_asg h (pg_sub (pe_x2 (X := X) (C := C) (env := env) (k2 := fun x y c2 => AX X C i env c2 fun z c3 => ∃ d j n ds m, x = .im d ∧ y = .ow j ∧ z = .im (.int n) ∧ c3[j]? = some (some ds) ∧ ixN ds.length n = some m ∧ P.nx env (c3.set j (some (ds.set m d)))))
    (show PE X i (fun σ H Q => ∃ x y c2, AX X C i env c2 (fun z c3 => ∃ d j n ds m, x = .im d ∧ y = .ow j ∧ z = .im (.int n) ∧ c3[j]? = some (some ds) ∧ ixN ds.length n = some m ∧ P.nx env (c3.set j (some (ds.set m d)))) ∧
      tX C X.K env c2 (fun z c3 => ∃ d j n ds m, x = .im d ∧ y = .ow j ∧ z = .im (.int n) ∧ c3[j]? = some (some ds) ∧ ixN ds.length n = some m ∧ P.nx env (c3.set j (some (ds.set m d)))) σ H Q) from ⟨fun pins s σ H Q I ⟨x, y, c2, h, t⟩ => h.run pins s σ H Q I t⟩) set_list ha) hs hw h1).imp
    fun D σ H ⟨ps, G, R, r, px, q⟩ => ⟨ps, G, R, r, px, fun x c1 v G1 R1 H1 hk1 g1 r1 o1 => ⟨x, c1, hk1, ps, G1, R1, r1, px.on g1, fun y c2 u G2 R2 H2 hk2 g2 r2 o2 => ⟨x, y, c2, hk2, ps, G2, R2, r2, (px.on g1).on g2, fun z c3 t G3 R3 H3 hk3 g3 r3 o3 => ?_⟩⟩⟩
  obtain ⟨d, j, n, ds, m, rfl, rfl, rfl, hc, hm, hk⟩ := hk3
  obtain ⟨p, hp, rfl⟩ := o2
  obtain ⟨vs, hR, dl⟩ := r3.cell j p ds hp hc
  have od : Dn C.ca X.K G3 v d := Dn.mono g3.ex (Dn.mono g2.ex o1)
  refine ⟨p, vs, n, m, rfl, Dn.int_inv o3, r3.wd.r _ _ hR, by rw [dl.length]; exact hm, ?_⟩
  exact q.nx env _ ps σ G3 _ _ hk (((g1.trans g2).trans g3).trans (Gr.setC hp)) (r3.setC hp hR (DnL.set od m dl))
end
end Al
namespace Al
open PySem PySem.Spec PyProof.Rows L2

/-! ### defs, where nothing is being written out -/
structure FnG (P : Program) (w : World) (K : PySem.W.Frag) (mg : Str → Option Value) (base : Heap) (CX : CXT) (k : Nat) (f : Addr) (fd : FuncData) (ps : List Str) (sp : Sp) : Prop where
  len : ∀ vs H Q E, sp vs H Q E → vs.length = ps.length
  run : ∀ (A : Around) (outer : List PySem.Env) (s : Shared) (H : Hp) (args : Args) (us : List Value) (vs : List V) (Q : VK) (E : XK), A.guards = some [] → Room k A → Env0 P w K mg base A outer s H → BindsTo s fd args (ps.zip us) → Vals vs us → sp vs H Q E →
    codeAny (model P w) A (.call (.ref f) args) (CR CX outer P w H s Q E) s
theorem FnG.mono {P : Program} {w : World} {K : PySem.W.Frag} {mg : Str → Option Value} {base : Heap} {CX : CXT} {j k : Nat} {f : Addr} {fd : FuncData} {ps : List Str} {sp : Sp} (F : FnG P w K mg base CX j f fd ps sp) (h : j ≤ k) :
    FnG P w K mg base CX k f fd ps sp := ⟨F.len, fun A outer s H args us vs Q E hg hr => F.run A outer s H args us vs Q E hg (hr.mono h)⟩
theorem deeper_guards {A : Around} {env : PySem.Env} : (A.deeper env).guards = A.guards := by first | rfl | simp [Around.deeper]
section
variable {CX : CXT} {P : Program} {w : World} {K : PySem.W.Frag} {mg : Str → Option Value} {base : Heap}
theorem fn_ofG {k : Nat} {f : Addr} {nm ql : Str} {prm : Arguments} {sts : List Stmt} {sc : Scope} {dV kV doc pm cdv ct oc : Value} {an od : Option Addr}
    {osl : Array (Option Value)} {N ps : List Str} {sp : Sp} (lk : K.lookup f = some ⟨oc, od, .func (PySem.W.fnOf nm ql prm sts sc dV kV doc pm an cdv ct), osl⟩)
    (hcd : PySem.W.codeIn K cdv ql = true) (S : FnScope N ps sc) (len : ∀ vs H Q E, sp vs H Q E → vs.length = ps.length)
    (go : ∀ (A : Around) (outer : List PySem.Env) (s : Shared) (H : Hp) (vs : List V) (Q : VK) (E : XK), A.guards = some [] → Room k (A.deeper (envOfC ql sc s.heap.objs.size f cdv)) → sp vs H Q E →
      ∃ t, PSs (cxOf CX P w K mg base N ql sc f cdv A outer s H E) sts t ∧ t { nx := fun _ H' => Q .non H', rt := Q } (start N vs) H) :
    FnG P w K mg base CX (k + 1) f (PySem.W.fnOf nm ql prm sts sc dV kV doc pm an cdv ct) ps sp :=
  ⟨len, by
    intro A outer s H args us vs Q E gd room e0 bnd rel want
    have cnt := len _ _ _ _ want
    have inK : K.In s.heap := e0.mod.kin.keeps (fun b o e => (e0.bs b o e).1)
    have kinds : ∀ y ∈ ps.zip us, sc.names.lookup y.1 = some .local ∨
        (sc.names.lookup y.1 = some .cell ∧ ((cellsFrom (s.heap.objs.size + 1) sc.names []).lookup y.1).isSome = true) := by
      rintro ⟨n, v⟩ hy
      rcases S.par n (List.of_mem_zip hy).1 with q | q
      · left
        exact q
      · right
        exact ⟨q, PySem.W.cellsFrom_some _ _ _ (.inl q)⟩
    refine codeAny_call_function room.depth (inK _ _ lk) rfl S.co S.gen rfl
      (PySem.W.codeRec_of inK hcd) (bnd _ _ _ _ ?_)
    refine wpAny_newFunctionEnv_cells S.kind kinds ?_
    intro env he s1 x
    subst he
    refine ⟨(e0.mod.nolimit.keeps (fun b o e => (e0.bs b o e).1)).keeps x.toInCall.keep, codeAny_func ?_⟩
    obtain ⟨t, ht, hq⟩ := go A outer s H vs Q E gd (room.deeper _) want
    have I := inv_start (CX := CX) (E := E) S room.hd e0 cnt rel x
    refine wpAny_mono (ht.run [] s1 (start N vs) H _ I hq) ?_ (fun e s' hs => hs)
    intro fl s' hs
    cases fl with
    | ret u => exact (match hs with | ⟨v, _, H', J, rv, q⟩ => ⟨v, H', J.os, J.bare, J.base, J.hok, rv, q⟩)
    | next => exact (match hs with | ⟨_, H', J, q⟩ => ⟨V.non, H', J.os, J.bare, J.base, J.hok, rfl, q⟩)
    | brk => exact (match hs with | ⟨_, _, _, q⟩ => q.elim)
    | cont => exact (match hs with | ⟨_, _, _, q⟩ => q.elim)⟩
end
section
variable {X : Cx} {CX : CXT} {k : Nat} {f : Addr} {fd : FuncData} {ps : List Str} {sp : Sp} {E : XK} {x : Str} {p pos : Pos} {e : Expr} {es : List Expr} {t : TA}
theorem run_fnG {pins : List (Addr × Obj)} {σ : L2.St} {H : Hp} {s : Shared} {Q : VK} {us : List Value} {vs : List V} (F : FnG X.prog X.w X.K X.mg X.base CX k f fd ps sp) (gd : X.A.guards = some []) (hr : Room k X.A) (hb : Binds X.K fd ps [])
    (hx : Passes CX X E) (I : Inv X pins σ H s) (r : Vals vs us) (h : sp vs H Q E) : wpAny (model X.prog X.w) X.A (call (.ref f) us) (EP X pins σ Q) X.xe s := by
  have hl : us.length = ps.length := by
    rw [← r.length]
    exact F.len _ _ _ _ h
  have hb2 := hb s us I.kIn (by rw [List.append_nil]; exact hl)
  rw [List.append_nil] at hb2
  refine wpAny_call (codeAny_mono (F.run X.A X.stack s H ⟨us, []⟩ us vs Q E gd hr I.env0 hb2 r h) ?_)
  intro r s' hq
  rcases r with er | fl
  · exact hx pins σ H s er s' I hq
  · cases fl with
    | ret u => exact I.after hq
    | next => exact (show False from hq).elim
    | brk => exact (show False from hq).elim
    | cont => exact (show False from hq).elim
/-- f(e, ..) -/
theorem pe_callG (F : FnG X.prog X.w X.K X.mg X.base CX k f fd ps sp) (gd : X.A.guards = some []) (hr : Room k X.A) (hg : Gl X x) (hm : X.mg x = some (.ref f)) (hk : PySem.W.keepIn X.K (.ref f) = true) (hb : Binds X.K fd ps []) (hx : Passes CX X E)
    (ha : PA X (e :: es) t) (hdb : (x == ("__debug__" : Str)) = false := by decide) (he : starEach (e :: es) X.env = (false, eval e X.env) :: starEach es X.env := by rfl) (hpl : (backTo pos (starEach es X.env)).any (·.1) = false := by rfl) :
    PE X (.Call (.Name x p) (e :: es) [] pos) (fun σ H Q => t σ H fun vs H1 => sp vs H1 Q E) := by
  constructor
  intro pins s σ H Q I h
  refine wpAny_Call_Name_kw (ld_glob I hg hm (PySem.W.callWith_K (h₀ := X.base) I.ok.mod.kin hk ?_ he hpl) hdb)
  refine thn (ha.run pos pins s σ H _ I h) ?_
  rintro us s1 ⟨vs, H1, I1, r, q⟩
  exact ⟨I1.kIn, run_fnG F gd hr hb hx I1 r q⟩
end

/-! ### promises over data -/
/-- data in, data out; kx: what an exception may be -/
abbrev Ph := List Da → (Da → Prop) → (Str → List Str → List Da → Prop) → Prop
/-- the same with a first argument that is a list that changes -/
abbrev PhJ := List Da → List Da → (Da → List Da → Prop) → (Str → List Str → List Da → List Da → Prop) → Prop
def spP (ca : Str → Addr) (K : PySem.W.Frag) (n : Nat) (φ : Ph) : Sp := fun vs H Q E => ∃ G R ds, vs.length = n ∧ Wd G R H ∧ DnL ca K G vs ds ∧ φ ds (fun d => ∀ v G' H', Ex G G' → Wd G' R H' → Dn ca K G' v d → Q v H')
  (fun c ks es => ∀ dd G' H', Ex G G' → Wd G' R H' → ExD ca K G' H' dd ks es → E (.ref (ca c)) dd H')
def spJ (ca : Str → Addr) (K : PySem.W.Frag) (n : Nat) (φ : PhJ) : Sp := fun vs H Q E => ∃ G R p us js ws ds, vs = .ref p :: ws ∧ ws.length = n ∧ Wd G R H ∧ R p = some (.lst us) ∧ DnL ca K G us js ∧ DnL ca K G ws ds ∧
  φ js ds (fun d js' => ∀ v us' G' H', Ex G G' → DnL ca K G' us' js' → Wd G' (upd R p (.lst us')) H' → Dn ca K G' v d → Q v H')
  (fun c ks es js' => ∀ dd us' G' H', Ex G G' → DnL ca K G' us' js' → Wd G' (upd R p (.lst us')) H' → ExD ca K G' H' dd ks es → E (.ref (ca c)) dd H')
section
variable {X : Cx} {C : Ct} {env : En} {cs : Cells} {kk : KE} {CX : CXT} {k n : Nat} {f : Addr} {fd : FuncData} {ps : List Str} {x : Str} {p pos : Pos} {e : Expr} {es : List Expr}
/-- an exception of a callee comes to what this body wants -/
def PassC (CX : CXT) (X : Cx) (C : Ct) : Prop := ∀ (σ : L2.St), ∃ E : XK, Passes CX X E ∧ ∀ cls dd H, C.W cls dd σ H → E cls dd H
theorem ax_callP {φ : Ph} (F : FnG X.prog X.w X.K X.mg X.base CX0 k f fd ps (spP C.ca X.K n φ)) (gd : X.A.guards = some []) (hr : Room k X.A) (hg : Gl X x) (hm : X.mg x = some (.ref f)) (hk : PySem.W.keepIn X.K (.ref f) = true) (hb : Binds X.K fd ps [])
    (h : AA X C (e :: es) env cs fun as c1 => imL as fun ds => ds.length = n ∧ φ ds (fun d => kk (.im d) c1) fun _ _ _ => False) (hdb : (x == ("__debug__" : Str)) = false := by decide) (he : starEach (e :: es) X.env = (false, eval e X.env) :: starEach es X.env := by rfl)
    (hpl : (backTo pos (starEach es X.env)).any (·.1) = false := by rfl) (mono : ∀ ds k1 k2 x1 x2, φ ds k1 x1 → (∀ d, k1 d → k2 d) → (∀ c ks es, x1 c ks es → x2 c ks es) → φ ds k2 x2 := by assumption) :
    AX X C (.Call (.Name x p) (e :: es) [] pos) env cs kk :=
  (pe_callG F gd hr hg hm hk hb pass0 h hdb he hpl).imp fun σ H Q ⟨pz, G, R, r, px, q⟩ => ⟨pz, G, R, r, px, fun as c1 ws G1 R1 H1 h1 g1 r1 o1 => by
    obtain ⟨ds, e1, hn, hφ⟩ := imL_of h1
    subst e1
    have dl := AVokL.ims o1
    refine ⟨G1, R1, ds, dl.length.trans hn, r1.wd, dl, mono _ _ _ _ _ hφ (fun d hd v G2 H2 ex w o => ?_) fun c ks es hf => hf.elim⟩
    exact q _ c1 v G2 R1 H2 hd (g1.trans (Gr.data ex)) (r1.grow ex w) o⟩
theorem ax_callJ {φ : PhJ} (F : FnG X.prog X.w X.K X.mg X.base CX0 k f fd ps (spJ C.ca X.K n φ)) (gd : X.A.guards = some []) (hr : Room k X.A) (hg : Gl X x) (hm : X.mg x = some (.ref f)) (hk : PySem.W.keepIn X.K (.ref f) = true) (hb : Binds X.K fd ps [])
    (h : AA X C (e :: es) env cs fun as c1 => ∃ j as', as = .ow j :: as' ∧ imL as' fun ds => ds.length = n ∧ ∃ js, c1[j]? = some (some js) ∧ φ js ds (fun d js' => kk (.im d) (c1.set j (some js'))) fun _ _ _ _ => False) (hdb : (x == ("__debug__" : Str)) = false := by decide) (he : starEach (e :: es) X.env = (false, eval e X.env) :: starEach es X.env := by rfl)
    (hpl : (backTo pos (starEach es X.env)).any (·.1) = false := by rfl) (mono : ∀ js ds k1 k2 x1 x2, φ js ds k1 x1 → (∀ d js', k1 d js' → k2 d js') → (∀ c ks es js', x1 c ks es js' → x2 c ks es js') → φ js ds k2 x2 := by assumption) :
    AX X C (.Call (.Name x p) (e :: es) [] pos) env cs kk :=
  (pe_callG F gd hr hg hm hk hb pass0 h hdb he hpl).imp fun σ H Q ⟨pz, G, R, r, px, q⟩ => ⟨pz, G, R, r, px, fun as c1 ws G1 R1 H1 hk1 g1 r1 o1 => by
    obtain ⟨j, as', ea, hk2⟩ := hk1
    subst ea
    obtain ⟨ds, e1, hn, js, hc, hφ⟩ := imL_of hk2
    subst e1
    match ws, o1 with
    | w0 :: ws', ⟨⟨a, ha, ew⟩, o2⟩ =>
      subst ew
      have dl := AVokL.ims o2
      obtain ⟨us, hR, du⟩ := r1.cell j a js ha hc
      refine ⟨G1, R1, a, us, js, ws', ds, rfl, dl.length.trans hn, r1.wd, hR, du, dl, mono _ _ _ _ _ _ hφ (fun d js' hd v us' G2 H2 ex du2 w o => ?_) fun c ks es js' hf => hf.elim⟩
      have w0 : Wd G2 (upd R1 a (.lst us')) H2 := w
      -- the cell's new content
      have r2 : Rep C.ca X.K env (c1.set j (some js')) pz σ G2 (upd R1 a (.lst us')) H2 := {
        wd := w
        nd := r1.nd
        len := by rw [r1.len, List.length_set]
        cell := fun i b es h1 h2 => by
          by_cases e : i = j
          · subst e
            rw [ha] at h1
            cases h1
            rw [List.getElem?_set_self (by rw [← r1.len]; exact (List.getElem?_eq_some_iff.mp ha).1)] at h2
            cases h2
            exact ⟨us', upd_same, du2⟩
          · rw [List.getElem?_set_ne (Ne.symm e)] at h2
            obtain ⟨zs, za, zb⟩ := r1.cell i b es h1 h2
            exact ⟨zs, by rw [upd_ne (fun z => e (L2.nd_ix r1.nd h1 (by rw [z]; exact ha)))]; exact za, zb.mono ex⟩
        dead := fun i b h1 h2 => by
          by_cases e : i = j
          · subst e
            rw [List.getElem?_set_self (by rw [← r1.len]; exact (List.getElem?_eq_some_iff.mp ha).1)] at h2
            cases h2
          · rw [List.getElem?_set_ne (Ne.symm e)] at h2
            obtain ⟨o, za⟩ := r1.dead i b h1 h2
            exact ⟨o, ex _ _ za⟩
        sv := fun i b z => by
          obtain ⟨v, h1, h2⟩ := r1.sv i b z
          exact ⟨v, h1, AVok.mono ex (fun _ _ z => z) h2⟩
        sl := r1.sl }
      refine q _ _ v G2 _ H2 hd (g1.trans ⟨ex, fun b o n h => ?_, fun _ _ z => z, fun _ h n => absurd h n⟩) r2 o
      rw [upd_ne (fun z => n (by rw [z]; exact List.mem_iff_getElem?.mpr ⟨j, ha⟩))]
      exact h⟩
end

/-! ### a def's body -/
/-- the context of a body from which no exception comes -/
structure Bd (X : Cx) (K : PySem.W.Frag) (mg : Str → Option Value) (P : Program) (w : World) (base : Heap) (k : Nat) (N : List Str) (sc : Scope) : Prop where
  K : X.K = K
  mg : X.mg = mg
  N : X.N = N
theorem get_pad {α : Type} {xs : List α} {n i : Nat} {a : α} (h : (xs.map some ++ List.replicate n none)[i]? = some (some a)) : xs[i]? = some a := by
  by_cases hi : i < xs.length
  · rw [List.getElem?_append_left (by rw [List.length_map]; exact hi), List.getElem?_map] at h
    cases e : xs[i]? with
    | none =>
      rw [e] at h
      cases h
    | some b =>
      rw [e] at h
      exact Option.some.inj h
  · rw [List.getElem?_append_right (by rw [List.length_map]; omega), List.getElem?_replicate] at h
    split at h <;> cases h
def env0 (N : List Str) (as : List AV) : En := as.map some ++ List.replicate (N.length - as.length) none
section
variable {ca : Str → Addr} {P : Program} {w : World} {K : PySem.W.Frag} {mg : Str → Option Value} {base : Heap}
theorem fnP {nm ql : Str} {st : Stmt} {f : Addr} {fd : FuncData} {N ps : List Str} {k n : Nat} {φ : Ph} (F : Fun K nm ql st f fd) (S : FnScope N ps (defScope st)) (hn : ps.length = n)
    (go : ∀ (cdv : Value) (A : Around) (outer : List PySem.Env) (s : Shared) (H : Hp) (E : XK) (ds : List Da) (kd : Da → Prop), A.guards = some [] → Room k (A.deeper (envOfC ql (defScope st) s.heap.objs.size f cdv)) → ds.length = n → φ ds kd (fun _ _ _ => True) →
      AB (cxOf CX0 P w K mg base N ql (defScope st) f cdv A outer s H E).nox ⟨ca, fun _ _ _ _ => True, fun _ _ _ _ _ => False⟩ (defBody st) (env0 N (ds.map .im)) [] { nx := fun _ _ => kd .non, rt := fun a _ => ∃ d, a = .im d ∧ kd d })
    (mono : ∀ ds k1 k2 x1 x2, φ ds k1 x1 → (∀ d, k1 d → k2 d) → (∀ c ks es, x1 c ks es → x2 c ks es) → φ ds k2 x2) : FnG P w K mg base CX0 (k + 1) f fd ps (spP ca K n φ) := by
  obtain ⟨oc, od, kV, doc, pm, an, cdv, ct, osl, rfl, lk, hcd⟩ := F.ex
  refine fn_ofG lk hcd S (fun vs H Q E ⟨_, _, _, h, _⟩ => h.trans hn.symm) fun A outer s H vs Q E gd hr ⟨G, R, ds, hl, wd, dl, hφ⟩ => ?_
  have hb := go cdv A outer s H E ds _ gd hr (dl.length.symm.trans hl) (mono _ _ _ _ _ hφ (fun _ h => h) fun _ _ _ _ => trivial)
  refine ⟨_, PSs.nox hb, ?_⟩
  have hpl : n ≤ N.length := by
    have z := congrArg List.length S.pre
    rw [List.length_take] at z
    omega
  have rep : Rep ca K (env0 N (ds.map .im)) [] [] (start N vs) G R H := {
    wd := wd
    nd := List.nodup_nil
    len := rfl
    cell := fun k p ds h => by simp at h
    dead := fun k p h => by simp at h
    sv := fun i a e => by
      have e2 : (ds.map AV.im)[i]? = some a := get_pad e
      rw [List.getElem?_map] at e2
      cases q : ds[i]? with
      | none =>
        rw [q] at e2
        cases e2
      | some d =>
        rw [q] at e2
        have e3 : a = .im d := (Option.some.inj e2).symm
        subst e3
        obtain ⟨v, hv, o⟩ := dl.get q
        refine ⟨v, ?_, o⟩
        show (vs.map some ++ _)[i]? = _
        rw [List.getElem?_append_left (by rw [List.length_map]; exact (List.getElem?_eq_some_iff.mp hv).1), List.getElem?_map, hv]
        rfl
    sl := by
      have e1 := dl.length
      simp [L2.start, env0]
      omega }
  refine ⟨[], G, R, rep, fun c ks ds env cs ps' dd σ G' R' H' h => h.elim, ⟨?_, ?_, ?_, ?_⟩⟩
  · intro env' cs' ps' σ' G' R' H' h g r
    exact h .non G' H' g.ex (r.wd.less fun a o e => g.oth a o (by simp) e) .non
  · rintro a env' cs' ps' σ' v G' R' H' ⟨d, rfl, h⟩ g r o
    exact h v G' H' g.ex (r.wd.less fun a o e => g.oth a o (by simp) e) o
  · intro env' cs' ps' σ' G' R' H' h
    exact h.elim
  · intro env' cs' ps' σ' G' R' H' h
    exact h.elim
theorem fnJ {nm ql : Str} {st : Stmt} {f : Addr} {fd : FuncData} {N ps : List Str} {k n : Nat} {φ : PhJ} (F : Fun K nm ql st f fd) (S : FnScope N ps (defScope st)) (hn : ps.length = n + 1)
    (go : ∀ (cdv : Value) (A : Around) (outer : List PySem.Env) (s : Shared) (H : Hp) (E : XK) (js ds : List Da) (kd : Da → List Da → Prop), A.guards = some [] → Room k (A.deeper (envOfC ql (defScope st) s.heap.objs.size f cdv)) → ds.length = n → φ js ds kd (fun _ _ _ _ => True) →
      AB (cxOf CX0 P w K mg base N ql (defScope st) f cdv A outer s H E).nox ⟨ca, fun _ _ _ _ => True, fun _ _ _ _ _ => False⟩ (defBody st) (env0 N (.ow 0 :: ds.map .im)) [some js]
        { nx := fun _ cs => ∃ js' r, cs = some js' :: r ∧ kd .non js', rt := fun a cs => ∃ d js' r, a = .im d ∧ cs = some js' :: r ∧ kd d js' })
    (mono : ∀ js ds k1 k2 x1 x2, φ js ds k1 x1 → (∀ d js', k1 d js' → k2 d js') → (∀ c ks es js', x1 c ks es js' → x2 c ks es js') → φ js ds k2 x2) : FnG P w K mg base CX0 (k + 1) f fd ps (spJ ca K n φ) := by
  obtain ⟨oc, od, kV, doc, pm, an, cdv, ct, osl, rfl, lk, hcd⟩ := F.ex
  refine fn_ofG lk hcd S (fun vs H Q E ⟨_, _, _, _, _, ws, _, h, h2, _⟩ => by rw [h, List.length_cons, h2, hn]) fun A outer s H vs Q E gd hr ⟨G, R, p, us, js, ws, ds, ev, hl, wd, hR, du, dl, hφ⟩ => ?_
  subst ev
  have hb := go cdv A outer s H E js ds _ gd hr (dl.length.symm.trans hl) (mono _ _ _ _ _ _ hφ (fun _ _ h => h) fun _ _ _ _ _ => trivial)
  refine ⟨_, PSs.nox hb, ?_⟩
  have hpl : n + 1 ≤ N.length := by
    have z := congrArg List.length S.pre
    rw [List.length_take] at z
    omega
  have rep : Rep ca K (env0 N (.ow 0 :: ds.map .im)) [some js] [p] (start N (.ref p :: ws)) G R H := {
    wd := wd
    nd := by simp
    len := rfl
    cell := fun k q es h1 h2 => by
      cases k with
      | zero =>
        cases h1
        cases h2
        exact ⟨us, hR, du⟩
      | succ k => simp at h1
    dead := fun k q h1 h2 => by
      cases k with
      | zero => cases h2
      | succ k => simp at h1
    sv := fun i a e => by
      have e2 : (AV.ow 0 :: ds.map AV.im)[i]? = some a := get_pad e
      cases i with
      | zero =>
        cases e2
        exact ⟨.ref p, rfl, p, rfl, rfl⟩
      | succ i =>
        have e2' : (ds.map AV.im)[i]? = some a := e2
        rw [List.getElem?_map] at e2'
        cases q : ds[i]? with
        | none =>
          rw [q] at e2'
          cases e2'
        | some d =>
          rw [q] at e2'
          have e3 : a = .im d := (Option.some.inj e2').symm
          subst e3
          obtain ⟨v, hv, o⟩ := dl.get q
          refine ⟨v, ?_, o⟩
          show ((V.ref p :: ws).map some ++ _)[i + 1]? = _
          rw [List.getElem?_append_left (by rw [List.length_map, List.length_cons]; have := (List.getElem?_eq_some_iff.mp hv).1; omega), List.getElem?_map]
          show (ws[i]?).map some = _
          rw [hv]
          rfl
    sl := by
      have e1 := dl.length
      simp [L2.start, env0]
      omega }
  have fin : ∀ {env' : En} {js' : List Da} {r : Cells} {ps' : List Addr} {σ' : L2.St} {G' R' H' : Hp}, Gr [p] G R ps' G' R' → Rep ca K env' (some js' :: r) ps' σ' G' R' H' → ∃ us', DnL ca K G' us' js' ∧ Wd G' (upd R p (.lst us')) H' := by
    intro env' js' r ps' σ' G' R' H' g rp
    obtain ⟨us', h1, h2⟩ := rp.cell 0 p js' (g.pre 0 p rfl) rfl
    refine ⟨us', h2, rp.wd.less fun a o e => ?_⟩
    by_cases z : a = p
    · rw [z, upd_same] at e
      cases e
      rw [z]
      exact h1
    · rw [upd_ne z] at e
      exact g.oth a o (by simpa using z) e
  refine ⟨[p], G, R, rep, fun c ks ds env cs ps' dd σ G' R' H' h => h.elim, ⟨?_, ?_, ?_, ?_⟩⟩
  · rintro env' cs' ps' σ' G' R' H' ⟨js', r, rfl, h⟩ g rp
    obtain ⟨us', h1, h2⟩ := fin g rp
    exact h .non us' G' H' g.ex h1 h2 .non
  · rintro a env' cs' ps' σ' v G' R' H' ⟨d, js', r, rfl, rfl, h⟩ g rp o
    obtain ⟨us', h1, h2⟩ := fin g rp
    exact h v us' G' H' g.ex h1 h2 o
  · intro env' cs' ps' σ' G' R' H' h
    exact h.elim
  · intro env' cs' ps' σ' G' R' H' h
    exact h.elim
end
end Al
namespace Al
open PySem PySem.Spec PyProof.Rows L2
theorem ixN_of {n : Nat} {i : Int} {j : Nat} (e : i = (j : Int)) (h : j < n) : ixN n i = some j := by
  subst e
  unfold ixN
  rw [if_pos (by omega), if_pos (by omega)]
  rfl
theorem atI_of {α : Type} {l : List α} {i : Int} {j : Nat} {x : α} (e : i = (j : Int)) (h : l[j]? = some x) : atI l i = some x := by
  unfold atI
  rw [ixN_of e (List.getElem?_eq_some_iff.mp h).1]
  exact h
end Al
namespace Al
open PySem PySem.Spec PyProof.Rows L2

/-! ### built-in functions and types, called -/
abbrev SemA := List AV → Cells → KE → Prop
def CbS (ca : Str → Addr) (K : PySem.W.Frag) (r : List V → Hp → VK → Prop) (f : SemA) : Prop := ∀ (env : En) (cs : Cells) (ps : List Addr) (σ : L2.St) (G R H : Hp) (as : List AV) (ws : List V) (k : KE) (Q : VK), Rep ca K env cs ps σ G R H → AVokL ca K G ps ws as → f as cs k → Post ca K env ps σ G R k Q → r ws H Q
section
variable {X : Cx} {C : Ct} {env : En} {cs : Cells} {k : KE} {pos p : Pos} {e a b c : Expr} {es : List Expr} {x : Str}
theorem ax_cb {id : String} {r : List V → Hp → VK → Prop} {f : SemA} (hc : CallR X (.builtin id) r) (hs : CbS C.ca X.K r f) (hg : Gl X x) (hm : X.mg x = none) (hv : bootBuiltins x = some (.builtin id)) (h : AA X C (e :: es) env cs fun as c1 => f as c1 k) (hn : x ≠ "__name__" := by decide) (hdb : (x == ("__debug__" : Str)) = false := by decide)
    (he : starEach (e :: es) X.env = (false, eval e X.env) :: starEach es X.env := by rfl) (hpl : (backTo pos (starEach es X.env)).any (·.1) = false := by rfl) : AX X C (.Call (.Name x p) (e :: es) [] pos) env cs k :=
  (pe_callB hc hg hm hv h hn hdb he hpl).imp fun σ H Q ⟨ps, G, R, r, px, q⟩ => ⟨ps, G, R, r, px, fun as c1 ws G1 R1 H1 h1 g1 r1 o1 => hs _ _ _ _ _ _ _ as ws k Q r1 o1 h1 (q.on g1)⟩
theorem ax_ct {T : String} {r : List V → Hp → VK → Prop} {f : SemA} (hc : CallR X (.type T) r) (hs : CbS C.ca X.K r f) (hg : Gl X x) (hm : X.mg x = none) (hv : bootBuiltins x = some (.type T)) (h : AA X C (e :: es) env cs fun as c1 => f as c1 k) (hn : x ≠ "__name__" := by decide) (hdb : (x == ("__debug__" : Str)) = false := by decide)
    (he : starEach (e :: es) X.env = (false, eval e X.env) :: starEach es X.env := by rfl) (hpl : (backTo pos (starEach es X.env)).any (·.1) = false := by rfl) : AX X C (.Call (.Name x p) (e :: es) [] pos) env cs k :=
  (pe_callTy hc hg hm hv h hn hdb he hpl).imp fun σ H Q ⟨ps, G, R, r, px, q⟩ => ⟨ps, G, R, r, px, fun as c1 ws G1 R1 H1 h1 g1 r1 o1 => hs _ _ _ _ _ _ _ as ws k Q r1 o1 h1 (q.on g1)⟩
/-- one int -/
def sI1 (g : Int → Int) : SemA := fun as cs k => match as with
  | [.im (.int i)] => k (.im (.int (g i))) cs
  | _ => False
def sI2 (g : Int → Int → Int) : SemA := fun as cs k => match as with
  | [.im (.int i), .im (.int j)] => k (.im (.int (g i j))) cs
  | _ => False
theorem av1 {ca : Str → Addr} {K : PySem.W.Frag} {G : Hp} {ps : List Addr} {ws : List V} {a : AV} (h : AVokL ca K G ps ws [a]) : ∃ w, ws = [w] ∧ AVok ca K G ps w a := by
  match ws, h with
  | [w], h => exact ⟨w, rfl, h.1⟩
theorem av2 {ca : Str → Addr} {K : PySem.W.Frag} {G : Hp} {ps : List Addr} {ws : List V} {a b : AV} (h : AVokL ca K G ps ws [a, b]) : ∃ w u, ws = [w, u] ∧ AVok ca K G ps w a ∧ AVok ca K G ps u b := by
  match ws, h with
  | [w, u], h => exact ⟨w, u, rfl, h.1, h.2.1⟩
theorem cs_int {ca : Str → Addr} {K : PySem.W.Frag} : CbS ca K (fun xs H Q => (∃ i, xs = [.int i] ∧ Q (.int i) H) ∨ ∃ k, xs = [.bl k] ∧ Q (.int (if k then 1 else 0)) H) (sI1 fun i => i) := by
  intro env cs ps σ G R H as ws k Q r o h q
  unfold sI1 at h
  split at h
  · obtain ⟨w, rfl, o1⟩ := av1 o
    exact .inl ⟨_, by rw [Dn.int_inv o1], r.same q h (.int _)⟩
  · exact h.elim
theorem ax_bint (hg : Gl X "int") (hm : X.mg "int" = none) (h : AA X C (e :: es) env cs fun as c1 => sI1 (fun i => i) as c1 k) (he : starEach (e :: es) X.env = (false, eval e X.env) :: starEach es X.env := by rfl) (hpl : (backTo pos (starEach es X.env)).any (·.1) = false := by rfl) :
    AX X C (.Call (.Name "int" p) (e :: es) [] pos) env cs k := ax_ct call_int1 cs_int hg hm boot_int h (by decide) (by decide) he hpl
theorem cs_abs {ca : Str → Addr} {K : PySem.W.Frag} : CbS ca K (fun xs H Q => ∃ i, xs = [.int i] ∧ Q (.int (if i < 0 then -i else i)) H) (sI1 fun i => if i < 0 then -i else i) := by
  intro env cs ps σ G R H as ws k Q r o h q
  unfold sI1 at h
  split at h
  · obtain ⟨w, rfl, o1⟩ := av1 o
    exact ⟨_, by rw [Dn.int_inv o1], r.same q h (.int _)⟩
  · exact h.elim
theorem ax_abs (hg : Gl X "abs") (hm : X.mg "abs" = none) (h : AA X C (e :: es) env cs fun as c1 => sI1 (fun i => if i < 0 then -i else i) as c1 k) (he : starEach (e :: es) X.env = (false, eval e X.env) :: starEach es X.env := by rfl) (hpl : (backTo pos (starEach es X.env)).any (·.1) = false := by rfl) :
    AX X C (.Call (.Name "abs" p) (e :: es) [] pos) env cs k := ax_cb call_abs cs_abs hg hm (by decide +kernel) h (by decide) (by decide) he hpl
theorem cs_I2 {ca : Str → Addr} {K : PySem.W.Frag} {g : Int → Int → Int} : CbS ca K (fun xs H Q => ∃ i j, xs = [.int i, .int j] ∧ Q (.int (g i j)) H) (sI2 g) := by
  intro env cs ps σ G R H as ws k Q r o h q
  unfold sI2 at h
  split at h
  · obtain ⟨w, u, rfl, o1, o2⟩ := av2 o
    exact ⟨_, _, by rw [Dn.int_inv o1, Dn.int_inv o2], r.same q h (.int _)⟩
  · exact h.elim
theorem ax_max2 (hc : X.calm = true) (hg : Gl X "max") (hm : X.mg "max" = none) (h : AA X C (e :: es) env cs fun as c1 => sI2 (fun i j => if j > i then j else i) as c1 k) (he : starEach (e :: es) X.env = (false, eval e X.env) :: starEach es X.env := by rfl) (hpl : (backTo pos (starEach es X.env)).any (·.1) = false := by rfl) :
    AX X C (.Call (.Name "max" p) (e :: es) [] pos) env cs k := ax_cb (call_max2 hc) cs_I2 hg hm (by decide +kernel) h (by decide) (by decide) he hpl
theorem ax_min2 (hc : X.calm = true) (hg : Gl X "min") (hm : X.mg "min" = none) (h : AA X C (e :: es) env cs fun as c1 => sI2 (fun i j => if j < i then j else i) as c1 k) (he : starEach (e :: es) X.env = (false, eval e X.env) :: starEach es X.env := by rfl) (hpl : (backTo pos (starEach es X.env)).any (·.1) = false := by rfl) :
    AX X C (.Call (.Name "min" p) (e :: es) [] pos) env cs k := ax_cb (call_min2 hc) cs_I2 hg hm (by decide +kernel) h (by decide) (by decide) he hpl
/-- len -/
def sLen : SemA := fun as cs k => match as with
  | [.im (.lst l)] => k (.im (.int l.length)) cs
  | [.im (.tup l)] => k (.im (.int l.length)) cs
  | [.im (.scr l)] => k (.im (.int l.length)) cs
  | [.im (.str z)] => z.length ≤ 100000 ∧ k (.im (.int z.length)) cs
  | [.ow j] => ∃ ds, cs[j]? = some (some ds) ∧ k (.im (.int ds.length)) cs
  | _ => False
theorem cs_len {ca : Str → Addr} {K : PySem.W.Frag} : CbS ca K (fun xs H Q => (∃ p ys, xs = [.ref p] ∧ (SqL K H p ys ∨ SqT K H p ys) ∧ Q (.int ys.length) H) ∨ (∃ z, xs = [.str z] ∧ z.length ≤ sizeLine ∧ Q (.int z.length) H)) sLen := by
  intro env cs ps σ G R H as ws k Q r o h q
  unfold sLen at h
  split at h
  · obtain ⟨w, rfl, o1⟩ := av1 o
    obtain ⟨p, xs, rfl, t, dl⟩ := Dn.lst_inv o1
    exact .inl ⟨p, xs, rfl, .inl (.inl (.inl (r.wd.g _ _ t))), by rw [dl.length]; exact r.same q h (.int _)⟩
  · obtain ⟨w, rfl, o1⟩ := av1 o
    obtain ⟨p, xs, rfl, t, dl⟩ := Dn.tup_inv o1
    exact .inl ⟨p, xs, rfl, .inr (r.wd.sqt t), by rw [dl.length]; exact r.same q h (.int _)⟩
  · obtain ⟨w, rfl, o1⟩ := av1 o
    obtain ⟨p, rfl, t⟩ := Dn.scr_inv o1
    exact .inl ⟨p, _, rfl, .inl (r.wd.sql t), by rw [List.length_map]; exact r.same q h (.int _)⟩
  · obtain ⟨w, rfl, o1⟩ := av1 o
    exact .inr ⟨_, by rw [Dn.str_inv o1], sz_of h.1, r.same q h.2 (.int _)⟩
  · obtain ⟨w, rfl, p, hp, rfl⟩ := av1 o
    obtain ⟨ds, hc, h⟩ := h
    obtain ⟨vs, hR, dl⟩ := r.cell _ p ds hp hc
    exact .inl ⟨p, vs, rfl, .inl (.inl (.inl (r.wd.r _ _ hR))), by rw [dl.length]; exact r.same q h (.int _)⟩
  · exact h.elim
theorem ax_len (hg : Gl X "len") (hm : X.mg "len" = none) (h : AA X C (e :: es) env cs fun as c1 => sLen as c1 k) (he : starEach (e :: es) X.env = (false, eval e X.env) :: starEach es X.env := by rfl) (hpl : (backTo pos (starEach es X.env)).any (·.1) = false := by rfl) :
    AX X C (.Call (.Name "len" p) (e :: es) [] pos) env cs k := ax_cb (CallR.or call_len_seq call_len_str) cs_len hg hm PySem.boot_len h (by decide) (by decide) he hpl
/-- all of a list of bools -/
def sAll : SemA := fun as cs k => ∃ bs : List Bool, as = [.im (.lst (bs.map Da.bl))] ∧ k (.im (.bl (bs.all id))) cs
theorem cs_all {ca : Str → Addr} {K : PySem.W.Frag} : CbS ca K (rAll K) sAll := by
  intro env cs ps σ G R H as ws k Q r o ⟨bs, e, h⟩ q
  subst e
  obtain ⟨w, rfl, o1⟩ := av1 o
  obtain ⟨p, xs, rfl, t, dl⟩ := Dn.lst_inv o1
  have e2 := dl.bls
  subst e2
  exact ⟨p, bs, rfl, .inl (.inl (r.wd.g _ _ t)), r.same q h (.bl _)⟩
theorem ax_all (hc : X.calm = true) (hg : Gl X "all") (hm : X.mg "all" = none) (h : AA X C (e :: es) env cs fun as c1 => sAll as c1 k) (he : starEach (e :: es) X.env = (false, eval e X.env) :: starEach es X.env := by rfl) (hpl : (backTo pos (starEach es X.env)).any (·.1) = false := by rfl) :
    AX X C (.Call (.Name "all" p) (e :: es) [] pos) env cs k := ax_cb (cr_all hc) cs_all hg hm (by decide +kernel) h (by decide) (by decide) he hpl

/-! ### methods of cells -/
/-- o.append(e), o a cell -/
theorem ax_append {o : Expr} {apos : Pos} (h : AX X C o env cs fun y c1 => ∃ j ds0, y = .ow j ∧ c1[j]? = some (some ds0) ∧ AX X C e env c1 fun x c2 => ∃ ds d, x = .im d ∧ c2[j]? = some (some ds) ∧ ds.length < 100000 ∧ k (.im .non) (c2.set j (some (ds ++ [d]))))
    (hbase : attributeBase o "append" X.env (eval o X.env) = eval o X.env := by rfl)
    (hfew : ((backTo pos (starEach [e] X.env)).all (fun x => !x.1) && (backToKw pos (keywordEach [] X.env)).all (fun x => x.1.isSome) && decide ([e].length + ([] : List Keyword).length + (if ([] : List Keyword).isEmpty then 0 else 1) < 30)) = true := by rfl)
    (hline : (apos.endLine == pos.line) = true := by rfl) (hs : starEach [e] X.env = (false, eval e X.env) :: starEach [] X.env := by rfl) (hplain : (backTo pos (starEach [] X.env)).any (·.1) = false := by rfl) :
    AX X C (.Call (.Attribute o "append" apos) [e] [] pos) env cs k := by
  refine (pe_bm PySem.F.plainAttrs_list PySem.F.slot_list_append PySem.F.type_list_append mt_append h (pa_cons (show PE X e (fun σ H Q => ∃ j c1, AX X C e env c1 (fun x c2 => ∃ ds d, x = .im d ∧ c2[j]? = some (some ds) ∧ ds.length < 100000 ∧ k (.im .non) (c2.set j (some (ds ++ [d])))) ∧
    tX C X.K env c1 (fun x c2 => ∃ ds d, x = .im d ∧ c2[j]? = some (some ds) ∧ ds.length < 100000 ∧ k (.im .non) (c2.set j (some (ds ++ [d])))) σ H Q) from ⟨fun pins s σ H Q I ⟨j, c1, h, t⟩ => h.run pins s σ H Q I t⟩) pa_nil hs) hbase hfew hline hs hplain).imp
    fun σ H Q ⟨ps, G, R, r, px, q⟩ => ⟨ps, G, R, r, px, fun y c1 v G1 R1 H1 hk g1 r1 o1 => ?_⟩
  obtain ⟨j, ds0, ey, hc0, hk2⟩ := hk
  subst ey
  obtain ⟨p0, hp, rfl⟩ := o1
  obtain ⟨vs0, hR0, dl0⟩ := r1.cell j p0 ds0 hp hc0
  refine ⟨.inl ⟨rfl, vs0, .inl (.inl (r1.wd.r _ _ hR0))⟩, j, c1, hk2, ps, G1, R1, r1, px.on g1, fun x c2 u G2 R2 H2 hk3 g2 r2 o2 => ?_⟩
  obtain ⟨ds, d, ex, hc, hl, hk4⟩ := hk3
  subst ex
  obtain ⟨vs, hR, dl⟩ := r2.cell j p0 ds hp hc
  refine ⟨p0, vs, u, rfl, rfl, r2.wd.r _ _ hR, sz_lt (by rw [dl.length]; exact hl), ?_⟩
  exact q _ _ .non G2 _ _ hk4 ((g1.trans g2).trans (Gr.setC hp)) (r2.setC hp hR (dl.append (.cons o2 .nil))) .non
end

/-! ### targets -/
/-- what a target does to the slots, for the data d -/
def TgS (ca : Str → Addr) (K : PySem.W.Frag) (g : TG) (t : Da → En → (En → Prop) → Prop) : Prop := ∀ (d : Da) (v : V) (env : En) (cs : Cells) (ps : List Addr) (σ : L2.St) (G R H : Hp) (k : En → Prop) (Q : L2.St → Hp → Prop), Rep ca K env cs ps σ G R H → Dn ca K G v d → t d env k →
  (∀ env' σ', k env' → Rep ca K env' cs ps σ' G R H → Q σ' H) → g v σ H Q
def tgN (i : Nat) : Da → En → (En → Prop) → Prop := fun d env k => i < env.length ∧ k (env.set i (some (.im d)))
theorem tg_name {ca : Str → Addr} {K : PySem.W.Frag} {i : Nat} : TgS ca K (gName i) (tgN i) := fun d v env cs ps σ G R H k Q r o ⟨h1, h2⟩ q => q _ _ h2 (r.setE (a := .im d) o h1)
def TgsS (ca : Str → Addr) (K : PySem.W.Frag) (g : TGs) (t : List Da → En → (En → Prop) → Prop) : Prop := ∀ (ds : List Da) (vs : List V) (env : En) (cs : Cells) (ps : List Addr) (σ : L2.St) (G R H : Hp) (k : En → Prop) (Q : L2.St → Hp → Prop), Rep ca K env cs ps σ G R H → DnL ca K G vs ds → t ds env k →
  (∀ env' σ', k env' → Rep ca K env' cs ps σ' G R H → Q σ' H) → g vs σ H Q
def tgsNil : List Da → En → (En → Prop) → Prop := fun ds env k => ds = [] ∧ k env
def tgsCons (t : Da → En → (En → Prop) → Prop) (u : List Da → En → (En → Prop) → Prop) : List Da → En → (En → Prop) → Prop := fun ds env k => ∃ d r, ds = d :: r ∧ t d env fun env1 => u r env1 k
theorem tgs_nil {ca : Str → Addr} {K : PySem.W.Frag} : TgsS ca K gNil tgsNil := fun ds vs env cs ps σ G R H k Q r o ⟨h1, h2⟩ q => by
  subst h1
  cases o
  exact ⟨rfl, q _ _ h2 r⟩
theorem tgs_cons {ca : Str → Addr} {K : PySem.W.Frag} {g : TG} {gs : TGs} {t : Da → En → (En → Prop) → Prop} {u : List Da → En → (En → Prop) → Prop} (h1 : TgS ca K g t) (h2 : TgsS ca K gs u) : TgsS ca K (gCons g gs) (tgsCons t u) := fun ds vs env cs ps σ G R H k Q r o ⟨d, rs, e, h⟩ q => by
  subst e
  cases o with
  | cons o1 o2 => exact ⟨_, _, rfl, h1 _ _ _ _ _ _ _ _ _ _ _ r o1 h fun env1 σ1 hk r1 => h2 _ _ _ _ _ _ _ _ _ _ _ r1 o2 hk q⟩
def tgT (n : Nat) (u : List Da → En → (En → Prop) → Prop) : Da → En → (En → Prop) → Prop := fun d env k => ∃ ds, d = .tup ds ∧ ds.length = n ∧ u ds env k
theorem tg_tup {ca : Str → Addr} {K : PySem.W.Frag} {n : Nat} {gs : TGs} {u : List Da → En → (En → Prop) → Prop} (h2 : TgsS ca K gs u) : TgS ca K (gTup K n gs) (tgT n u) := fun d v env cs ps σ G R H k Q r o ⟨ds, e, hl, h⟩ q => by
  subst e
  obtain ⟨p, xs, rfl, t, dl⟩ := Dn.tup_inv o
  exact ⟨p, xs, rfl, r.wd.sqt t, by rw [dl.length]; exact hl, h2 _ _ _ _ _ _ _ _ _ _ _ r dl h q⟩

/-! ### loops -/
section
variable {X : Cx} {C : Ct} {env : En} {cs : Cells} {P : Pst} {pos pr pc : Pos} {e tg : Expr} {body : List Stmt}
abbrev Iv := Nat → En → Cells → Prop
/-- the body, by its invariant -/
def tB3 (X : Cx) (C : Ct) (st : List Stmt) : TS := fun D σ H => ∃ env c1 P, AB X C st env c1 P ∧ tS C X.K env c1 P D σ H
theorem ps_b3 {st : List Stmt} : PSs X st (tB3 X C st) := ⟨fun pins s σ H D I ⟨x, c1, P, h, t⟩ => h.run pins s σ H D I t⟩
/-- for .. in range(e) -/
theorem as_range {g : TG} {t : Da → En → (En → Prop) → Prop} (hc : X.calm = true) (hp : PassesOwn (model X.prog X.w) X.A X.env X.xe) (hg : Gl X "range") (hm : X.mg "range" = none) (hG : PG X tg g) (hT : TgS C.ca X.K g t)
    (h : AX X C e env cs fun x c1 => ∃ n : Int, x = .im (.int n) ∧ -(2 ^ 62) ≤ n ∧ n < 2 ^ 62 ∧ ∃ I : Iv, I 0 env c1 ∧ (∀ (i : Nat) env1 c2, (i : Int) < n → I i env1 c2 → t (.int (i : Int)) env1 fun env2 => AB X C body env2 c2 { nx := I (i + 1), ct := I (i + 1), bk := P.nx, rt := P.rt }) ∧ ∀ env1 c2, I n.toNat env1 c2 → P.nx env1 c2)
    (hs : starEach [e] X.env = [(false, eval e X.env)] := by rfl) (hf : ∀ x, foldedSetIterable (.Call (.Name "range" pr) [e] [] pc) X.env x = pure x := by intro _; rfl) : AS X C (.For tg (.Call (.Name "range" pr) [e] [] pc) body [] pos) env cs P := by
  refine (ps_for hp hc (pi_range1 hg hm (pa_cons h pa_nil hs) hs) hG (ps_b3 (X := X) (C := C)) hf).imp fun D σ H ⟨ps, G, R, r, px, q⟩ => ?_
  refine ⟨ps, G, R, r, px, fun x c1 v G1 R1 H1 ⟨n, ex, b1, b2, I, h0, hs, hd⟩ g1 r1 o1 => ?_⟩
  subst ex
  refine ⟨n, by rw [Dn.int_inv o1], b1, b2, for_range (lo := 0) (n := n.toNat) (fun i σ' H' => ∃ env' c' ps' G' R', I i env' c' ∧ Gr ps G R ps' G' R' ∧ Rep C.ca X.K env' c' ps' σ' G' R' H') ⟨env, c1, ps, G1, R1, h0, g1, r1⟩ ?_ ?_⟩
  · rintro i σ' H' hi ⟨env', c', ps', G', R', hI, g', r'⟩
    have e0 : (0 : Int) + (i : Int) = (i : Int) := Int.zero_add _
    rw [e0]
    refine hT _ _ _ _ _ _ _ _ _ _ _ r' (.int _) (hs i env' c' (by omega) hI) fun env2 σ2 hb r2 => ⟨env2, c', _, hb, ps', G', R', r2, px.on g', ?_, ?_, ?_, ?_⟩
    · intro e3 c3 ps3 σ3 G3 R3 H3 h3 g3 r3
      exact ⟨e3, c3, ps3, G3, R3, h3, g'.trans g3, r3⟩
    · exact q.rt.on g'
    · exact q.nx.on g'
    · intro e3 c3 ps3 σ3 G3 R3 H3 h3 g3 r3
      exact ⟨e3, c3, ps3, G3, R3, h3, g'.trans g3, r3⟩
  · rintro σ' H' ⟨env', c', ps', G', R', hI, g', r'⟩
    exact q.nx env' c' ps' σ' G' R' H' (hd env' c' hI) g' r'
/-- for .. in a list of data -/
theorem as_list {g : TG} {t : Da → En → (En → Prop) → Prop} (hc : X.calm = true) (hp : PassesOwn (model X.prog X.w) X.A X.env X.xe) (hG : PG X tg g) (hT : TgS C.ca X.K g t)
    (h : AX X C e env cs fun x c1 => ∃ ds, (x = .im (.lst ds) ∨ ∃ ns, x = .im (.scr ns) ∧ ds = ns.map Da.int) ∧ ∃ I : Iv, I 0 env c1 ∧ (∀ (i : Nat) d env1 c2, ds[i]? = some d → I i env1 c2 → t d env1 fun env2 => AB X C body env2 c2 { nx := I (i + 1), ct := I (i + 1), bk := P.nx, rt := P.rt }) ∧ ∀ env1 c2, I ds.length env1 c2 → P.nx env1 c2)
    (hf : ∀ x, foldedSetIterable e X.env x = pure x := by intro _; rfl) : AS X C (.For tg e body [] pos) env cs P := by
  refine (ps_for hp hc (pi_list h) hG (ps_b3 (X := X) (C := C)) hf).imp fun D σ H ⟨ps, G, R, r, px, q⟩ => ?_
  refine ⟨ps, G, R, r, px, fun x c1 v G1 R1 H1 ⟨ds, ex, I, h0, hs, hd⟩ g1 r1 o1 => ?_⟩
  obtain ⟨a, xs, rfl, hS, dl⟩ : ∃ a xs, v = .ref a ∧ SqL X.K G1 a xs ∧ DnL C.ca X.K G1 xs ds := by
    rcases ex with rfl | ⟨ns, rfl, rfl⟩
    · obtain ⟨p, xs, e1, t, dl⟩ := Dn.lst_inv o1
      exact ⟨p, xs, e1, .inl (.inl t), dl⟩
    · obtain ⟨p, e1, t⟩ := Dn.scr_inv o1
      exact ⟨p, _, e1, t, DnL.of_ints ns⟩
  refine ⟨a, rfl, ⟨xs, r1.wd.sql hS⟩, for_list (xs := xs) (fun i σ' H' => ∃ env' c' ps' G' R', I i env' c' ∧ Gr ps G R ps' G' R' ∧ Ex G1 G' ∧ Rep C.ca X.K env' c' ps' σ' G' R' H') ⟨env, c1, ps, G1, R1, h0, g1, Ex.refl _, r1⟩ ?_ ?_ ?_⟩
  · rintro i σ' H' _ ⟨env', c', ps', G', R', hI, g', ex, r'⟩
    exact r'.wd.sql (ex.sql hS)
  · rintro i y σ' H' hy ⟨env', c', ps', G', R', hI, g', ex, r'⟩
    obtain ⟨d, hd2, od⟩ := dl.at_ hy
    refine hT _ _ _ _ _ _ _ _ _ _ _ r' (od.mono ex) (hs i d env' c' hd2 hI) fun env2 σ2 hb r2 => ⟨env2, c', _, hb, ps', G', R', r2, px.on g', ?_, ?_, ?_, ?_⟩
    · intro e3 c3 ps3 σ3 G3 R3 H3 h3 g3 r3
      exact ⟨e3, c3, ps3, G3, R3, h3, g'.trans g3, ex.trans g3.ex, r3⟩
    · exact q.rt.on g'
    · exact q.nx.on g'
    · intro e3 c3 ps3 σ3 G3 R3 H3 h3 g3 r3
      exact ⟨e3, c3, ps3, G3, R3, h3, g'.trans g3, ex.trans g3.ex, r3⟩
  · rintro σ' H' ⟨env', c', ps', G', R', hI, g', ex, r'⟩
    rw [dl.length] at hI
    exact q.nx env' c' ps' σ' G' R' H' (hd env' c' hI) g' r'
/-- for .. in a tuple of data -/
theorem as_tuple {g : TG} {t : Da → En → (En → Prop) → Prop} (hc : X.calm = true) (hp : PassesOwn (model X.prog X.w) X.A X.env X.xe) (hG : PG X tg g) (hT : TgS C.ca X.K g t)
    (h : AX X C e env cs fun x c1 => ∃ ds, x = .im (.tup ds) ∧ ∃ I : Iv, I 0 env c1 ∧ (∀ (i : Nat) d env1 c2, ds[i]? = some d → I i env1 c2 → t d env1 fun env2 => AB X C body env2 c2 { nx := I (i + 1), ct := I (i + 1), bk := P.nx, rt := P.rt }) ∧ ∀ env1 c2, I ds.length env1 c2 → P.nx env1 c2)
    (hf : ∀ x, foldedSetIterable e X.env x = pure x := by intro _; rfl) : AS X C (.For tg e body [] pos) env cs P := by
  refine (ps_for hp hc (pi_tup h) hG (ps_b3 (X := X) (C := C)) hf).imp fun D σ H ⟨ps, G, R, r, px, q⟩ => ?_
  refine ⟨ps, G, R, r, px, fun x c1 v G1 R1 H1 ⟨ds, ex, I, h0, hs, hd⟩ g1 r1 o1 => ?_⟩
  subst ex
  obtain ⟨a, xs, rfl, hS, dl⟩ := Dn.tup_inv o1
  refine ⟨a, rfl, ⟨xs, r1.wd.sqt hS⟩, for_tup (xs := xs) (fun i σ' H' => ∃ env' c' ps' G' R', I i env' c' ∧ Gr ps G R ps' G' R' ∧ Ex G1 G' ∧ Rep C.ca X.K env' c' ps' σ' G' R' H') ⟨env, c1, ps, G1, R1, h0, g1, Ex.refl _, r1⟩ ?_ ?_ ?_⟩
  · rintro i σ' H' _ ⟨env', c', ps', G', R', hI, g', ex, r'⟩
    exact r'.wd.sqt (ex.sqt hS)
  · rintro i y σ' H' hy ⟨env', c', ps', G', R', hI, g', ex, r'⟩
    obtain ⟨d, hd2, od⟩ := dl.at_ hy
    refine hT _ _ _ _ _ _ _ _ _ _ _ r' (od.mono ex) (hs i d env' c' hd2 hI) fun env2 σ2 hb r2 => ⟨env2, c', _, hb, ps', G', R', r2, px.on g', ?_, ?_, ?_, ?_⟩
    · intro e3 c3 ps3 σ3 G3 R3 H3 h3 g3 r3
      exact ⟨e3, c3, ps3, G3, R3, h3, g'.trans g3, ex.trans g3.ex, r3⟩
    · exact q.rt.on g'
    · exact q.nx.on g'
    · intro e3 c3 ps3 σ3 G3 R3 H3 h3 g3 r3
      exact ⟨e3, c3, ps3, G3, R3, h3, g'.trans g3, ex.trans g3.ex, r3⟩
  · rintro σ' H' ⟨env', c', ps', G', R', hI, g', ex, r'⟩
    rw [dl.length] at hI
    exact q.nx env' c' ps' σ' G' R' H' (hd env' c' hI) g' r'
end
end Al
namespace Al
open PySem PySem.Spec PyProof.Rows L2

theorem wipe_at {σ : L2.St} : ∀ {vs : List Nat} {n : Nat}, (wipe σ vs)[n]? = if n ∈ vs ∧ n < σ.length then some none else σ[n]?
  | [], n => by
    rw [if_neg (by simp)]
    rfl
  | v :: vs, n => by
    show ((wipe σ vs).set v none)[n]? = _
    by_cases e : v = n
    · subst e
      by_cases h : v < σ.length
      · rw [List.getElem?_set_self (by rw [wipe_length]; exact h), if_pos ⟨List.mem_cons_self, h⟩]
      · rw [List.getElem?_eq_none (by rw [List.length_set, wipe_length]; omega), if_neg (by omega), List.getElem?_eq_none (by omega)]
    · rw [List.getElem?_set_ne e, wipe_at]
      have z : (n ∈ v :: vs) ↔ (n ∈ vs) := by
        rw [List.mem_cons]
        constructor
        · rintro (h | h)
          · exact absurd h.symm e
          · exact h
        · exact .inr
      by_cases h : n ∈ vs ∧ n < σ.length
      · rw [if_pos h, if_pos ⟨z.mpr h.1, h.2⟩]
      · rw [if_neg h, if_neg fun q => h ⟨z.mp q.1, q.2⟩]
theorem wipe_set {σ : L2.St} {vs : List Nat} {i : Nat} {x : Option V} (h : i ∈ vs) : wipe ((wipe σ vs).set i x) vs = wipe σ vs := by
  apply List.ext_getElem?
  intro n
  rw [wipe_at, List.length_set, wipe_length]
  by_cases hn : n ∈ vs ∧ n < σ.length
  · rw [if_pos hn, wipe_at, if_pos hn]
  · rw [if_neg hn]
    by_cases e : i = n
    · subst e
      have hl : ¬ i < σ.length := fun z => hn ⟨h, z⟩
      rw [List.getElem?_eq_none (by rw [List.length_set, wipe_length]; omega), List.getElem?_eq_none (by rw [wipe_length]; omega)]
    · rw [List.getElem?_set_ne e]
theorem Rep.wipe {ca : Str → Addr} {K : PySem.W.Frag} {env : En} {cs : Cells} {ps : List Addr} {σ : L2.St} {G R H : Hp} {vs : List Nat} (r : Rep ca K env cs ps σ G R H) (h : ∀ i ∈ vs, ∀ a, env[i]? ≠ some (some a)) : Rep ca K env cs ps (L2.wipe σ vs) G R H where
  wd := r.wd
  nd := r.nd
  len := r.len
  cell := r.cell
  dead := r.dead
  sv := fun i a e => by
    obtain ⟨v, h1, h2⟩ := r.sv i a e
    exact ⟨v, by rw [wipe_at, if_neg (fun z => h i z.1 a e)]; exact h1, h2⟩
  sl := by rw [wipe_length, r.sl]
theorem Rep.env {ca : Str → Addr} {K : PySem.W.Frag} {env env' : En} {cs cs' : Cells} {ps : List Addr} {σ σ' : L2.St} {G G' R R' H H' : Hp} (r : Rep ca K env cs ps σ G R H) (r' : Rep ca K env' cs' ps σ' G' R' H') (e : Ex G G') : Rep ca K env cs' ps σ G' R' H' where
  wd := r'.wd
  nd := r'.nd
  len := r'.len
  cell := r'.cell
  dead := r'.dead
  sv := fun i a z => by
    obtain ⟨v, h1, h2⟩ := r.sv i a z
    exact ⟨v, h1, AVok.mono e (fun _ _ z => z) h2⟩
  sl := r.sl
theorem Rep.reR {ca : Str → Addr} {K : PySem.W.Frag} {env : En} {cs : Cells} {ps : List Addr} {σ : L2.St} {G R R' H H' : Hp} (r : Rep ca K env cs ps σ G R H) (w : Wd G R' H') (h : ∀ p ∈ ps, R' p = R p) : Rep ca K env cs ps σ G R' H' where
  wd := w
  nd := r.nd
  len := r.len
  cell := fun j q es h1 h2 => by
    obtain ⟨us, a, b⟩ := r.cell j q es h1 h2
    exact ⟨us, by rw [h q (List.mem_iff_getElem?.mpr ⟨j, h1⟩)]; exact a, b⟩
  dead := r.dead
  sv := r.sv
  sl := r.sl
section
variable {X : Cx} {C : Ct} {env : En} {cs : Cells} {k : KL} {pos pr pc : Pos} {e tg elt : Expr} {ifs : List Expr} {scope : Scope} {own : List (Str × Nat)}
abbrev Ic := Nat → List Da → Cells → Prop
/-- the block of a comprehension -/
abbrev Blk (X : Cx) (scope : Scope) (p : Cx → Prop) : Prop := ∀ (s : Shared) (H : Hp) (Cc : Addr) (cl : List (Str × Addr)) (fp : List Addr), p (X.blk s H scope (compEnvC scope cl Cc X.env) fp)
/-- the tests and the element, for one item -/
def AE1 (X : Cx) (C : Ct) (scope : Scope) (ifs : List Expr) (elt : Expr) (env : En) (cs : Cells) (acc : List Da) (kn : List Da → Cells → Prop) : Prop :=
  match ifs with
  | [] => Blk X scope fun Y => AX Y C elt env cs fun a c1 => ∃ d, a = .im d ∧ acc.length < 100000 ∧ kn (acc ++ [d]) c1
  | [t] => Blk X scope fun Y => AT Y C t env cs fun b c1 => (b = true → Blk X scope fun Y => AX Y C elt env c1 fun a c2 => ∃ d, a = .im d ∧ acc.length < 100000 ∧ kn (acc ++ [d]) c2) ∧ (b = false → kn acc c1)
  | _ => False
def tTs (X : Cx) (C : Ct) (scope : Scope) (ifs : List Expr) : TT := match ifs with
  | [] => tYes
  | [t] => fun σ H Q => ∃ env c1 kt, (Blk X scope fun Y => AT Y C t env c1 kt) ∧ tT C X.K env c1 kt σ H Q
  | _ => fun _ _ _ => False
def tEl (X : Cx) (C : Ct) (scope : Scope) (elt : Expr) : TE := fun σ H Q => ∃ env c1 k, (Blk X scope fun Y => AX Y C elt env c1 k) ∧ tX C X.K env c1 k σ H Q
theorem pts_two {c d : Expr} {l : List Expr} {Y : Cx} : PTs Y (c :: d :: l) (fun _ _ _ => False) := ⟨fun _ _ _ _ _ _ h => h.elim⟩
/-- what stands behind some turns: D, the list that is made -/
def Cst (X : Cx) (C : Ct) (env : En) (ps : List Addr) (σ : L2.St) (G R : Hp) (D : Addr) (kn : List Da → Cells → Prop) (H : Hp) : Prop :=
  ∃ (c : Cells) (acc : List Da) (vacc : List V) (G1 R1 : Hp), kn acc c ∧ Gr ps G R ps G1 R1 ∧ Rep C.ca X.K env c ps σ G1 R1 H ∧ R1 D = some (.lst vacc) ∧ DnL C.ca X.K G1 vacc acc
/-- one turn -/
theorem comp_turn {ps : List Addr} {σ : L2.St} {G R G1 R1 H : Hp} {c1 : Cells} {D : Addr} {acc : List Da} {vacc : List V} {env2 : En} {σ2 : L2.St} {kn : List Da → Cells → Prop} (px : PostX C X.K ps G R) (hR0 : R D = none) (hDp : D ∉ ps)
    (r0 : Rep C.ca X.K env c1 ps σ G1 R1 H) (g' : Gr ps G R ps G1 R1) (hD : R1 D = some (.lst vacc)) (da : DnL C.ca X.K G1 vacc acc)
    (r2 : Rep C.ca X.K env2 c1 ps σ2 G1 R1 H) (h : AE1 X C scope ifs elt env2 c1 acc kn) :
    tTs X C scope ifs σ2 H fun b H3 => if b = true then tEl X C scope elt σ2 H3 fun y H4 => ∃ ac, H4 D = some (.lst ac) ∧ ac.length < sizeLine ∧ Cst X C env ps σ G R D kn (upd H4 D (.lst (ac ++ [y]))) else Cst X C env ps σ G R D kn H3 := by
  have el : ∀ {c3 : Cells} {G3 R3 H3 : Hp}, Gr ps G1 R1 ps G3 R3 → Rep C.ca X.K env2 c3 ps σ2 G3 R3 H3 → (Blk X scope fun Y => AX Y C elt env2 c3 fun a c2 => ∃ d, a = .im d ∧ acc.length < 100000 ∧ kn (acc ++ [d]) c2) →
      tEl X C scope elt σ2 H3 fun y H4 => ∃ ac, H4 D = some (.lst ac) ∧ ac.length < sizeLine ∧ Cst X C env ps σ G R D kn (upd H4 D (.lst (ac ++ [y]))) := by
    intro c3 G3 R3 H3 g3 r3 hb
    refine ⟨env2, c3, _, hb, ps, G3, R3, r3, px.on (g'.trans g3), fun a c4 y G4 R4 H4 ⟨d, ea, hl, hk⟩ g4 r4 o4 => ?_⟩
    subst ea
    have hD4 : R4 D = some (.lst vacc) := g4.oth D _ hDp (g3.oth D _ hDp hD)
    have e14 : Ex G1 G4 := g3.ex.trans g4.ex
    have da4 := da.mono e14
    have gg := g'.trans (g3.trans g4)
    have r5 := r0.env r4 e14
    refine ⟨vacc, r4.wd.r _ _ hD4, sz_lt (by rw [da4.length]; exact hl), c4, acc ++ [d], vacc ++ [y], G4, upd R4 D (.lst (vacc ++ [y])), hk, ?_, ?_, upd_same, da4.append (.cons o4 .nil)⟩
    · refine ⟨gg.ex, fun q o n e => ?_, gg.pre, gg.new⟩
      rw [upd_ne (fun z => by rw [z, hR0] at e; cases e)]
      exact gg.oth q o n e
    · exact r5.reR (r5.wd.setR hD4) fun p hp => upd_ne (fun z => hDp (by rw [← z]; exact hp))
  match ifs, h with
  | [], h =>
    have z := el (Gr.refl _ _ _) r2 h
    unfold tTs tYes
    exact (if_pos rfl : (if true = true then _ else _) = _).mpr z
  | [t], h =>
    refine ⟨env2, c1, _, h, ps, G1, R1, r2, px.on g', fun b c3 G3 R3 H3 hb g3 r3 => ?_⟩
    cases b with
    | true => exact iteT (el g3 r3 (hb.1 rfl))
    | false => exact iteF ⟨c3, acc, vacc, G3, R3, hb.2 rfl, g'.trans g3, r0.env r3 g3.ex, g3.oth D _ hDp hD, da.mono g3.ex⟩
  | _ :: _ :: _, h => exact h.elim
theorem blk_pts {ifs : List Expr} : Blk X scope fun Y => PTs Y ifs (tTs X C scope ifs) := by
  intro s H Cc cl fp
  match ifs with
  | [] => exact pts_nil
  | [t] => exact pts_one ⟨fun pins s' σ H' Q I ⟨env, c1, kt, h, q⟩ => (h s H Cc cl fp).run pins s' σ H' Q I q⟩
  | _ :: _ :: _ => exact pts_two
theorem blk_el : Blk X scope fun Y => PE Y elt (tEl X C scope elt) := fun s H Cc cl fp => ⟨fun pins s' σ H' Q I ⟨env, c1, k, h, q⟩ => (h s H Cc cl fp).run pins s' σ H' Q I q⟩
/-- the start: a list that nothing else knows -/
theorem comp_start {ps : List Addr} {σ : L2.St} {G R H : Hp} {c1 : Cells} {D : Addr} {kn : List Da → Cells → Prop} (r : Rep C.ca X.K env c1 ps σ G R H) (hD : H D = none) (h : kn [] c1) : Cst X C env ps σ G R D kn (upd H D (.lst [])) := by
  have hR := r.wd.freshR hD
  have hn := r.notin hD
  refine ⟨c1, [], [], G, upd R D (.lst []), h, ⟨Ex.refl _, fun q o n e => ?_, fun _ _ z => z, fun _ h n => absurd h n⟩, r.reR (r.wd.newR hD) fun p hp => upd_ne (fun z => hn (by rw [← z]; exact hp)), upd_same, .nil⟩
  rw [upd_ne (fun z => by rw [z, hR] at e; cases e)]
  exact e
/-- the end -/
theorem comp_end {ps : List Addr} {σ : L2.St} {G R H : Hp} {D : Addr} {Q : VK} (hR0 : R D = none) (hDp : D ∉ ps)
    (q : ∀ ds c1 p vs G1 R1 H1, k ds c1 → Gr ps G R ps G1 R1 → Rep C.ca X.K env c1 ps σ G1 R1 H1 → H1 p = none → DnL C.ca X.K G1 vs ds → Q (.ref p) (upd H1 p (.lst vs))) (h : Cst X C env ps σ G R D k H) : Q (.ref D) H := by
  obtain ⟨c, acc, vacc, G1, R1, hk, g, r, hD, dl⟩ := h
  have hG := r.wd.noG hD
  have w : Wd G1 (cut R1 D) (cut H D) := by
    refine ⟨fun a o e => ?_, fun a o e => ?_, fun a o e => ?_⟩
    · rw [cut_ne (fun z => by rw [z, hG] at e; cases e)]
      exact r.wd.g a o e
    · by_cases z : a = D
      · rw [z, cut_same] at e
        cases e
      · rw [cut_ne z] at e
        rw [cut_ne z]
        exact r.wd.r a o e
    · by_cases z : a = D
      · rw [z]
        exact cut_same
      · rw [cut_ne z]
        exact r.wd.d a o e
  have r2 : Rep C.ca X.K env c ps σ G1 (cut R1 D) (cut H D) := r.reR w fun p hp => cut_ne (fun z => hDp (by rw [← z]; exact hp))
  have g2 : Gr ps G R ps G1 (cut R1 D) := ⟨g.ex, fun b o n e => by
    rw [cut_ne (fun z => by rw [z, hR0] at e; cases e)]
    exact g.oth b o n e, g.pre, g.new⟩
  have z := q acc c D vacc G1 _ _ hk g2 r2 cut_same dl
  have e : upd (cut H D) D (.lst vacc) = H := by
    funext b
    by_cases hb : b = D
    · rw [hb, upd_same, r.wd.r _ _ hD]
    · rw [upd_ne hb, cut_ne hb]
  rw [e] at z
  exact z
/-- [elt for x in range(e) if ..] -/
theorem al_lcR (i : Nat) {x : Str} {p0 : Pos} (hc : X.calm = true) (hN : X.N.Nodup) (hg : Gl X "range") (hm : X.mg "range" = none) (ok : BlkOk X.N X.env.scope scope own) (hi : i ∈ own.map (·.2)) (hl : i < env.length) (hw : ∀ j ∈ own.map (·.2), ∀ a, env[j]? ≠ some (some a))
    (hG : Blk X scope fun Y => PG Y (.Name x p0) (gName i))
    (h : AX X C e env cs fun z c1 => ∃ n : Int, z = .im (.int n) ∧ -(2 ^ 62) ≤ n ∧ n < 2 ^ 62 ∧ ∃ I : Ic, I 0 [] c1 ∧ (∀ (t : Nat) acc c, (t : Int) < n → I t acc c → AE1 X C scope ifs elt (env.set i (some (.im (.int (t : Int))))) c acc (I (t + 1))) ∧ ∀ acc c, I n.toNat acc c → k acc c)
    (hs : starEach [e] X.env = [(false, eval e X.env)] := by rfl) (hf : ∀ x, foldedSetIterable (.Call (.Name "range" pr) [e] [] pc) X.env x = pure x := by intro _; rfl) :
    AL X C (.ListComp elt [⟨.Name x p0, .Call (.Name "range" pr) [e] [] pc, ifs, 0⟩] scope pos) env cs k := by
  refine (pe_lc (own := own) (g := gName i) (tt := tTs X C scope ifs) (te := tEl X C scope elt) hc hN (pi_range1 hg hm (pa_cons h pa_nil hs) hs) ok hG blk_pts blk_el hf).imp fun σ H Q ⟨ps, G, R, r, px, q⟩ => ?_
  refine ⟨ps, G, R, r, px, fun z c1 v G1 R1 H1 ⟨n, ez, b1, b2, I, h0, ht, hd⟩ g1 r1 o1 => ?_⟩
  subst ez
  refine ⟨n, by rw [Dn.int_inv o1], b1, b2, fun D hD => ?_⟩
  have hR0 := r1.wd.freshR hD
  have hn := r1.notin hD
  refine lc_range (lo := 0) (n := n.toNat) (fun t H' => Cst X C env ps σ G1 R1 D (I t) H') (comp_start r1 hD h0) ?_ fun H' hH => comp_end hR0 hn (fun ds c2 p vs G2 R2 H2 h2 g2 => q ds c2 p vs G2 R2 H2 (hd ds c2 h2) (g1.trans g2)) hH
  rintro t H' ht2 ⟨c2, acc, vacc, G2, R2, hI, g2, r2, hD2, da⟩
  have e0 : (0 : Int) + (t : Int) = (t : Int) := Int.zero_add _
  rw [e0]
  exact ⟨wipe_set hi, comp_turn (px.on g1) hR0 hn r2 g2 hD2 da ((r2.wipe hw).setE (a := .im (.int (t : Int))) (.int _) hl) (ht t acc c2 (by omega) hI)⟩
/-- [elt for tg in xs if ..], xs a list of data -/
theorem al_lcL (i : Nat) {x : Str} {p0 : Pos} (hc : X.calm = true) (hN : X.N.Nodup) (ok : BlkOk X.N X.env.scope scope own) (hi : i ∈ own.map (·.2)) (hl : i < env.length) (hw : ∀ j ∈ own.map (·.2), ∀ a, env[j]? ≠ some (some a))
    (hG : Blk X scope fun Y => PG Y (.Name x p0) (gName i))
    (h : AX X C e env cs fun z c1 => ∃ ds, z = .im (.lst ds) ∧ ∃ I : Ic, I 0 [] c1 ∧ (∀ (t : Nat) d acc c, ds[t]? = some d → I t acc c → AE1 X C scope ifs elt (env.set i (some (.im d))) c acc (I (t + 1))) ∧ ∀ acc c, I ds.length acc c → k acc c)
    (hf : ∀ x, foldedSetIterable e X.env x = pure x := by intro _; rfl) :
    AL X C (.ListComp elt [⟨.Name x p0, e, ifs, 0⟩] scope pos) env cs k := by
  refine (pe_lc (own := own) (g := gName i) (tt := tTs X C scope ifs) (te := tEl X C scope elt) hc hN (pi_list h) ok hG blk_pts blk_el hf).imp fun σ H Q ⟨ps, G, R, r, px, q⟩ => ?_
  refine ⟨ps, G, R, r, px, fun z c1 v G1 R1 H1 ⟨ds, ez, I, h0, ht, hd⟩ g1 r1 o1 => ?_⟩
  subst ez
  obtain ⟨a, xs, rfl, t1, dl⟩ := Dn.lst_inv o1
  refine ⟨a, rfl, ⟨xs, .inl (.inl (r1.wd.g _ _ t1))⟩, fun D hD => ?_⟩
  have hR0 := r1.wd.freshR hD
  have hn := r1.notin hD
  refine lc_list (xs := xs) (fun t H' => Cst X C env ps σ G1 R1 D (I t) H') (comp_start r1 hD h0) ?_ ?_ fun H' hH => comp_end hR0 hn (fun es c2 p vs G2 R2 H2 h2 g2 => q es c2 p vs G2 R2 H2 (hd es c2 (by rw [← dl.length]; exact h2)) (g1.trans g2)) hH
  · rintro t H' _ ⟨c2, acc, vacc, G2, R2, hI, g2, r2, hD2, da⟩
    exact .inl (.inl (r2.wd.g _ _ (g2.ex _ _ t1)))
  · rintro t y H' hy ⟨c2, acc, vacc, G2, R2, hI, g2, r2, hD2, da⟩
    obtain ⟨d, hd2, od⟩ := dl.at_ hy
    exact ⟨wipe_set hi, comp_turn (px.on g1) hR0 hn r2 g2 hD2 da ((r2.wipe hw).setE (a := .im d) (od.mono g2.ex) hl) (ht t d acc c2 hd2 hI)⟩
end
end Al
/-! own exception classes, called: by position, by name -/
namespace Al
open PySem PySem.Spec PyProof.Rows L2
section
variable {prog : Program} {w : World} {A : Around} {E : Value → Shared → Prop} {R : Result → Shared → Prop} {hp : Heap} {gs : Array GenState} {dr : Drawn} {tk : Nat} {sys : OsState}
variable {n0 q0 : Str} {C N0 : Addr} {bs0 bm tl : List Value} {hd0 : Bool} {sn0 : List Str} {sb0 : List Value} {ab0 : Bool} {cl0 : Option Bool} {dd0 : Option Addr} {c0 c1 c2 c3 c5 : Option Value} {B nid iid : String}
abbrev xTup (vs : List Value) : Obj := { cls := .type "tuple", data := .seq vs.toArray }
abbrev xObj (C t : Addr) : Obj := { cls := .ref C, data := .fields #[.ref t, .none, .none, .none, .bool false, .none] }
theorem chkNew (FB : ExcBaseFacts B nid iid tl) (same : ∀ X : String, bm.contains (.type X) = tl.contains (.type X)) {vs : List Value} {kw : List (Str × Value)} {Q : Unit → Shared → Prop}
    (hC : hp.get? C = some (excClassObj n0 q0 C N0 bs0 bm hd0 sn0 sb0 ab0 cl0 dd0 c0 c1 c2 c3 c5 nid)) (arg : Bind.checkArgs nid ⟨.any, B, B, .cls, [⟨"args", .varPos, false⟩, ⟨"kwargs", .varKw, false⟩]⟩ ⟨.ref C :: vs, kw⟩ = pure ()) (fin : Q () ⟨hp, gs, dr, tk, sys⟩) :
    wpAny (model prog w) A (checkBuiltinCall nid ⟨.ref C :: vs, kw⟩) Q E ⟨hp, gs, dr, tk, sys⟩ := by
  have isB : (Value.ref C :: bm).contains (.type B) = true := by
    rw [List.contains_cons, same, FB.hasB]
    exact Bool.or_true _
  have short := FB.noStar
  simp only [checkBuiltinCall, FB.newKind, FB.newSplit, FB.newRow, arg]
  repeat (first
    | refine wpAny_loadPart_at hC ?_
    | (refine wpAny_isSubtype_exc hC ?_
       rw [isB])
    | refine wpAny_staticBase_exc hC ?_
    | refine wpAny_madeBy_exc hC ?_
    | simp only [bne_self_eq_false, Bool.false_eq_true, if_false]
    | wp_step)
  exact fin
theorem runNew (FB : ExcBaseFacts B nid iid tl) (same : ∀ X : String, bm.contains (.type X) = tl.contains (.type X)) {vs : List Value} {kw : List (Str × Value)}
    (hC : hp.get? C = some (excClassObj n0 q0 C N0 bs0 bm hd0 sn0 sb0 ab0 cl0 dd0 c0 c1 c2 c3 c5 nid)) (few : vs.length ≤ sizeLine)
    (fin : R (.ok (.ret (.ref (hp.objs.size + 1)))) ⟨(hp.push (xTup vs)).push (xObj C hp.objs.size), gs, dr, tk, sys⟩) : codeAny (model prog w) A (.builtin nid ⟨.ref C :: vs, kw⟩) R ⟨hp, gs, dr, tk, sys⟩ := by
  have tail := FB.ends
  have isB : (Value.ref C :: bm).contains (.type B) = true := by
    rw [List.contains_cons, same, FB.hasB]
    exact Bool.or_true _
  have isA : (Value.ref C :: bm).contains (.type "AttributeError") = false := by
    rw [List.contains_cons, same, FB.noAttr]
    rfl
  have isN : (Value.ref C :: bm).contains (.type "NameError") = false := by
    rw [List.contains_cons, same, FB.noName]
    rfl
  refine codeAny_builtinAt FB.entry ?_
  unfold Builtin.«BaseException.__new__»
  refine PySem.wpAt_bind ?_
  show PySem.wpAt _ _ _ (stack >>= _) _ _ _
  refine PySem.wpAt_bind (PySem.wpAt_stack ?_)
  intro p below
  refine PySem.wpAt_of_wpAny ?_
  wp_walk
  apply PySem.wpAt_of_wpAny
  rw [FB.owner]
  repeat (first
    | with_reducible refine wpAny_madeHere_exc FB.canon hC ?_
    | with_reducible refine wpAny_loadPart_at hC ?_
    | (with_reducible refine wpAny_isSubtype_exc hC ?_
       first | rw [isB] | rw [isA] | rw [isN])
    | wp_step)
  show R _ _
  simp only [Heap.size_push]
  exact fin
theorem chkCall {vs : List Value} {kw : List (Str × Value)} {Q : Unit → Shared → Prop} (hC : hp.get? C = some (excClassObj n0 q0 C N0 bs0 bm hd0 sn0 sb0 ab0 cl0 dd0 c0 c1 c2 c3 c5 nid)) (fin : Q () ⟨hp, gs, dr, tk, sys⟩) :
    wpAny (model prog w) A (checkBuiltinCall "type.__call__" ⟨.ref C :: vs, kw⟩) Q E ⟨hp, gs, dr, tk, sys⟩ := by
  have s1 := tc_sub
  have s2 : (⟨hp, gs, dr, tk, sys⟩ : Shared).TypeIs (.ref C) "type" := ⟨_, hC, rfl⟩
  simp only [checkBuiltinCall, tc_kind, tc_split]
  repeat (any_goals (first
    | assumption
    | with_reducible refine wpAny_loadPart_at hC ?_
    | with_reducible refine wpAny_onRaise ?_
    | with_reducible refine wpAny_map ?_
    | wp_step))
theorem runType (FB : ExcBaseFacts B nid iid tl) (same : ∀ X : String, bm.contains (.type X) = tl.contains (.type X)) {vs : List Value} {kw : List (Str × Value)} {fI : Addr} {Q : Fin → Shared → Prop}
    (hC : hp.get? C = some (excClassObj n0 q0 C N0 bs0 bm hd0 sn0 sb0 ab0 cl0 dd0 c0 c1 c2 c3 c5 nid)) (arg : Bind.checkArgs nid ⟨.any, B, B, .cls, [⟨"args", .varPos, false⟩, ⟨"kwargs", .varKw, false⟩]⟩ ⟨.ref C :: vs, kw⟩ = pure ())
    (lk : PySem.W.Looks (model prog w) hp (typeLookup (.ref C) "__init__") (some (.ref fI))) (bd : ∀ self, PySem.W.Looks (model prog w) hp (bindSpecial (.ref fI) self) (.ref fI, [self])) (few : vs.length ≤ sizeLine)
    (go : codeAny (model prog w) A (.call (.ref fI) ⟨.ref (hp.objs.size + 1) :: vs, kw⟩)
      (fun r s' => match r with | .ok (.ret v) => v = .none ∧ Q (.done (.ret (.ref (hp.objs.size + 1)))) s' | .ok _ => False | .error x => E x s')
      ⟨(hp.push (xTup vs)).push (xObj C hp.objs.size), gs, dr, tk, sys⟩) : wpAny (model prog w) A (Builtin.«type.__call__» ⟨.ref C :: vs, kw⟩) Q E ⟨hp, gs, dr, tk, sys⟩ := by
  repeat (first
    | with_reducible refine wpAny_loadPart_at hC ?_
    | with_reducible refine wpAny_madeBy_exc hC ?_
    | wp_step)
  refine codeAny_call_builtin_code (Code.quiet_builtin _ FB.quiet) (chkNew FB same hC arg (runNew FB same hC few ?_))
  show wpAny _ _ _ _ _ _
  have kp : ∀ b o, hp.get? b = some o → ((hp.push (xTup vs)).push (xObj C hp.objs.size)).get? b = some o := by
    intro b o z
    exact Heap.get?_push_of_some _ (Heap.get?_push_of_some _ z)
  have atC := kp _ _ hC
  have atX : ((hp.push (xTup vs)).push (xObj C hp.objs.size)).get? (hp.objs.size + 1) = some (xObj C hp.objs.size) := by heap_get
  have selfC : (Value.ref C :: bm).contains (.ref C) = true := by simp
  have l2 := lk.keeps kp
  have b2 := (bd (.ref (hp.objs.size + 1))).keeps kp
  unfold isInstance
  repeat (first
    | with_reducible refine wpAny_loadPart_at atX ?_
    | (with_reducible refine wpAny_isSubtype_exc atC ?_
       rw [selfC])
    | wp_step)
  show wpAny _ _ (typeLookup (.ref C) _) _ _ _
  refine l2.at (wpAny_holding (wpAny_bind (b2.at (wpAny_bind (wpAny_call (codeAny_mono go ?_))))))
  intro r s' z
  rcases r with e | fl
  · exact z
  · cases fl with
    | ret v =>
      obtain ⟨z1, z2⟩ := z
      subst z1
      first
        | exact wpAny_pure (wpAny_pure z2)
        | (wp_walk
           exact z2)
    | next => exact (show False from z).elim
    | brk => exact (show False from z).elim
    | cont => exact (show False from z).elim
theorem runCall (FB : ExcBaseFacts B nid iid tl) (same : ∀ X : String, bm.contains (.type X) = tl.contains (.type X)) {vs : List Value} {kw : List (Str × Value)} {fI : Addr}
    (hC : hp.get? C = some (excClassObj n0 q0 C N0 bs0 bm hd0 sn0 sb0 ab0 cl0 dd0 c0 c1 c2 c3 c5 nid)) (arg : Bind.checkArgs nid ⟨.any, B, B, .cls, [⟨"args", .varPos, false⟩, ⟨"kwargs", .varKw, false⟩]⟩ ⟨.ref C :: vs, kw⟩ = pure ())
    (lk : PySem.W.Looks (model prog w) hp (typeLookup (.ref C) "__init__") (some (.ref fI))) (bd : ∀ self, PySem.W.Looks (model prog w) hp (bindSpecial (.ref fI) self) (.ref fI, [self])) (few : vs.length ≤ sizeLine)
    (go : codeAny (model prog w) (A.under (.builtin "type.__call__" ⟨.ref C :: vs, kw⟩)) (.call (.ref fI) ⟨.ref (hp.objs.size + 1) :: vs, kw⟩) (PySem.W.InitBack (hp.objs.size + 1) R)
      ⟨(hp.push (xTup vs)).push (xObj C hp.objs.size), gs, dr, tk, sys⟩) : codeAny (model prog w) A (.call (.ref C) ⟨vs, kw⟩) R ⟨hp, gs, dr, tk, sys⟩ := by
  have s1 := tc_lookup
  have s2 := tc_bind (.ref C)
  have s3 : (⟨hp, gs, dr, tk, sys⟩ : Shared).TypeIs (.ref C) "type" := ⟨_, hC, rfl⟩
  apply codeAny_of_tree
  show wpAny _ _ (callAny (.ref C) _) _ _ _
  repeat (any_goals (first
    | assumption
    | with_reducible refine wpAny_loadPart_at hC ?_
    | wp_step))
  refine And.intro rfl (codeAny_call_builtin_at (Code.quiet_builtin _ (by decide +kernel)) entry_typeCall (chkCall hC ?_))
  refine runType FB same hC arg lk bd few (codeAny_mono go ?_)
  intro r s' z
  rcases r with e | fl
  · exact z
  · cases fl with
    | ret v => exact z
    | next => exact z
    | brk => exact z
    | cont => exact z
end
end Al
/-! an own exception that is made, with one attribute or none -/
namespace Al
open PySem PySem.Spec PyProof.Rows L2
/-- what the written part says of a class of errors -/
structure XC (K : PySem.W.Frag) (C : Addr) : Prop where
  bse : ∃ B nid iid tl, ExcBaseFacts B nid iid tl ∧ StoreFacts B tl "object.__setattr__" "object" ∧ PySem.W.excInitIn K C tl nid = true ∧ PySem.W.excOver K C tl = true ∧
    (∀ vs kw, Bind.checkArgs nid ⟨.any, B, B, .cls, [⟨"args", .varPos, false⟩, ⟨"kwargs", .varKw, false⟩]⟩ ⟨.ref C :: vs, kw⟩ = pure ()) ∧
    (PySem.W.findIn K (.ref C) "__init__" = some (some (.builtin iid)) ∨ ∃ fI, PySem.W.findIn K (.ref C) "__init__" = some (some (.ref fI)))
  dct : PySem.W.hasDictIn K C = true
  sa : PySem.W.findIn K (.ref C) "__setattr__" = some (some (.builtin "object.__setattr__"))
  ga : PySem.W.findIn K (.ref C) "__getattribute__" = some (some (.builtin "BaseException.__getattribute__"))
  gt : PySem.W.findIn K (.ref C) "__getattr__" = some none
  sub : PySem.W.subIn K (.ref C) (.type "BaseException") = some true
  kc : PySem.W.findIn K (.ref C) "__class__" = some (some (.builtin "object.__class__"))
  ob : PySem.W.mroIn K C (.type "object") = some true
  kp : PySem.W.keepIn K (.ref C) = true
section
open Builtin Builtin.ObjectAttr
variable {prog : Program} {w : World} {A : Around} {R : Result → Shared → Prop} {hp : Heap} {gs : Array GenState} {dr : Drawn} {tk : Nat} {sys : OsState}
theorem osaX {K : PySem.W.Frag} {B : String} {tl : List Value} {nm : Str} {t0 : Tok} {v : Value} {x C : Addr} {fv : Array Value} (SF : StoreFacts B tl "object.__setattr__" "object") (KX : K.In hp) (hx : hp.get? x = some { cls := .ref C, data := .fields fv })
    (ov : PySem.W.excOver K C tl = true) (hd : PySem.W.hasDictIn K C = true) (no : PySem.W.findIn K (.ref C) nm = some none)
    (fin : ∀ h' tk' dx, (∀ b o, b ≠ x → hp.get? b = some o → h'.get? b = some o) → hp.objs.size ≤ dx → dx ≠ x → h'.get? x = some { cls := .ref C, dict := some dx, data := .fields fv } →
      h'.Ns1 dx (fun y => if y = nm then some v else none) → R (.ok (.ret .none)) ⟨h', gs, dr, tk', sys⟩) : codeAny (model prog w) A (.call (.builtin "object.__setattr__") ⟨[.ref x, .str nm t0, v], []⟩) R ⟨hp, gs, dr, tk, sys⟩ := by
  have lt : x ≠ hp.objs.size := Nat.ne_of_lt (Heap.lt_size hx)
  obtain ⟨cd, hc, hdd⟩ := PySem.W.any_some hd
  have inst : PySem.W.InstAt hp x { cls := .ref C, data := .fields fv } C none := ⟨hx, rfl, rfl, trivial⟩
  have tkr : PySem.W.takerIn K C nm = some none := by
    unfold PySem.W.takerIn
    rw [no]
    rfl
  refine PySem.W.osa_openX SF KX inst ov tkr fun b => ?_
  have lc : PySem.W.Looks (model prog w) hp (classData C) cd := PySem.W.looks_clsIn KX hc
  obtain ⟨cn, cb, cm, cns, cq, chd, cs, csb, ca, cc, cdel⟩ := cd
  dsimp only at hdd
  subst hdd
  show wpAny _ _ (storeInOwnDict (.ref x) (.ref C) (.str nm t0) nm v b) _ _ _
  unfold storeInOwnDict ownDictForStores
  repeat (first
    | with_reducible refine PySem.HandSPX.store_in_new ?_ ?_
    | with_reducible refine wpAny_loadPart_at hx ?_
    | with_reducible refine lc.at ?_
    | wp_step)
  · exact ⟨_, #[], _, (Heap.get?_update_ne _ _ _ _ lt.symm).trans (Heap.get?_push_at rfl rfl), rfl, fun e he => absurd he (by simp), fun _ => rfl⟩
  · intro h2 tk2 ns2 same
    have px : (hp.push { cls := .type "dict", data := .dict #[] }).get? x = some { cls := .ref C, data := .fields fv } := Heap.get?_push_of_some _ hx
    refine fin h2 tk2 hp.objs.size ?_ (Nat.le_refl _) lt.symm ?_ ns2
    · intro b o nb z
      rw [same.2 b (Nat.ne_of_lt (Heap.lt_size z)), Heap.get?_update_ne _ _ _ _ nb]
      exact Heap.get?_push_of_some _ z
    · rw [same.2 x lt]
      exact Heap.get?_update_self _ px rfl
end
section
variable {X : Cx} {pins : List (Addr × Obj)} {σ : L2.St} {H : Hp} {s : Shared} {a C dx : Addr} {f : Str} {y : V} {u : Value} {E : Value → Shared → Prop} {A : Around}
/-- self.f = y, the first one, whatever built-in class stands above -/
theorem xst_new {Q : Unit → Shared → Prop} (T : XC X.K C) (I : Inv X pins σ H s) (e : H a = some (exo a C none)) (no : PySem.W.findIn X.K (.ref C) f = some none) (ry : RelV y u)
    (fin : ∀ dx s', H dx = none → dx ≠ a → Inv X pins σ (upd (upd H dx (exd dx [(f, y)])) a (exo a C (some dx))) s' → Q () s') : wpAny (model X.prog X.w) A (setAttr (.ref a) f u) Q E s := by
  obtain ⟨B, nid, iid, tl, _, SF, _, ov, _⟩ := T.bse
  obtain ⟨t1, ho⟩ := exo_at I.hok e
  obtain ⟨hp, gs, dr, tk, sys⟩ := s
  refine PySem.W.set_plain I.kIn (ox := { cls := .ref C, dict := none, data := .fields #[.ref t1, .none, .none, .none, .bool false, .none] }) (od := none) ⟨ho, rfl, rfl, trivial⟩ T.sa ?_
  refine osaX SF I.kIn ho ov T.dct no fun h2 tk2 dx kp le ne hx ns => ?_
  have fr : H dx = none := I.hok.fresh le
  have old : ∀ {b : Addr} {o : Obj}, hp.get? b = some o → b ≠ dx := fun {b o} z q => by
    rw [q] at z
    exact absurd (Heap.lt_size z) (Nat.not_lt.mpr le)
  have nota : ∀ {b : Addr}, H b = none → b ≠ a := fun {b} z q => by
    rw [q, e] at z
    cases z
  -- what is neither a nor dx is told as before
  have same : ∀ {b : Addr} {o : HO}, H b = some o → exo a C none ≠ o → upd (upd H dx (exd dx [(f, y)])) a (exo a C (some dx)) b = some o := fun {b o} z d => by
    rw [upd_ne (at_ne e z d), upd_ne (ne_of_none z fr)]
    exact z
  have U : Un X.fs [] H (upd (upd H dx (exd dx [(f, y)])) a (exo a C (some dx))) hp h2 := by
    constructor
    · intro b o z n _ _
      exact kp b o (nota n) z
    · intro b o z n _ _
      exact ⟨o.slots, kp b o (nota n) z⟩
    · intro b o z n _
      rw [upd_ne (nota n), upd_ne (old z)]
      exact n
    · intro b o z _
      by_cases q : b = a
      · subst q
        exact ⟨_, hx⟩
      · exact ⟨o, kp b o q z⟩
    · intro b xs z
      exact same z exo_tup
    · intro b o v z
      exact same z exo_frz
    · intro b p z
      exact ⟨#[], by rw [same z exo_tbl]; simp⟩
  refine fin dx _ fr ne (I.un (t' := tk2) U ?_)
  intro b o z
  by_cases q : b = a
  · subst q
    rw [upd_same] at z
    cases z
    exact exo_ok hx
  · rw [upd_ne q] at z
    by_cases q2 : b = dx
    · subst q2
      rw [upd_same] at z
      cases z
      exact exd_ok ns (relO_put (fs := []) ry fun g => True.intro)
    · rw [upd_ne q2] at z
      refine (I.hok b o z).stay ?_ ?_ ?_
      · intro c v hc
        refine kp c v ?_
        rcases hc with hc | hc
        · rw [hc]
          exact q
        · exact at_ne e hc exo_own
      · intro c hc
        exact same hc exo_own
      · intro c xs hc
        exact same hc exo_tup
end
end Al
/-! errors made by position, by name, of nothing -/
namespace Al
open PySem PySem.Spec PyProof.Rows L2
def iArg (f : Str) (p1 p2 : Pos) : Arguments := { posonlyargs := [], args := [{ arg := "self", annotation := none, pos := p1 }, { arg := f, annotation := none, pos := p2 }], vararg := none, kwonlyargs := [], kw_defaults := [], kwarg := none, defaults := [] }
def iBdy (f : Str) (p1 p2 p3 p4 : Pos) : List Stmt := [.Assign [.Attribute (.Name "self" p1) f p2] (.Name f p3) p4]
def iScp (f : Str) : Scope := { kind := ScopeKind.function, names := [("self", .local), (f, .local)], isGenerator := false, isCoroutine := false, more := [] }
/-- a class whose __init__ keeps the one thing that is given -/
structure XI (K : PySem.W.Frag) (C fI : Addr) (f : Str) : Prop where
  x : XC K C
  at_ : PySem.W.findIn K (.ref C) "__init__" = some (some (.ref fI))
  ty : PySem.W.typeIn K (.ref fI) = some (.type "function")
  no : PySem.W.findIn K (.ref C) f = some none
  fn : ∃ oc od kV doc pm an cdv ct osl ql p1 p2 p3 p4 p5 p6, K.lookup fI = some ⟨oc, od, .func (PySem.W.fnOf "__init__" ql (iArg f p1 p2) (iBdy f p3 p4 p5 p6) (iScp f) .none kV doc pm an cdv ct), osl⟩ ∧ PySem.W.codeIn K cdv ql = true
def tXst (K : PySem.W.Frag) (f : Str) (to te : TE) : TS := fun D σ H => te σ H fun y H1 => to σ H1 fun x H2 => ∃ a C : Addr, x = .ref a ∧ XC K C ∧ PySem.W.findIn K (.ref C) f = some none ∧ H2 a = some (exo a C none) ∧
  ∀ dx, H2 dx = none → dx ≠ a → D.nx σ (upd (upd H2 dx (exd dx [(f, y)])) a (exo a C (some dx)))
theorem ps_xst {X : Cx} {o e : Expr} {to te : TE} {f : Str} {p' pos : Pos} (ho : PE X o to) (he : PE X e te) (hs : swapsWith e (some (.Attribute o f p')) pos.line X.env = pure false := by rfl) : PS X (.Assign [.Attribute o f p'] e pos) (tXst X.K f to te) := by
  constructor
  intro pins s σ H D I h
  refine plainObj_wpAny_Assign_Attribute (thn (he.run pins s σ H _ I h) ?_) hs
  rintro v s1 ⟨y, H1, I1, r1, q1⟩
  refine thn (ho.run pins s1 σ H1 _ I1 q1) ?_
  rintro u s2 ⟨x, H2, I2, r2, a, C, ex, T, no, ea, q⟩
  subst ex
  have eu : u = Value.ref a := r2
  subst eu
  exact xst_new T I2 ea no r1 fun dx s' n d J => ⟨σ, _, J, q dx n d⟩
def spI (C : Addr) (f : Str) : Sp := fun vs H Q _ => ∃ a y, vs = [.ref a, y] ∧ H a = some (exo a C none) ∧ ∀ dx, H dx = none → dx ≠ a → Q .non (upd (upd H dx (exd dx [(f, y)])) a (exo a C (some dx)))
section
variable {P : Program} {w : World} {K : PySem.W.Frag} {mg : Str → Option Value} {base : Heap} {C fI : Addr} {f : Str}
theorem scI (hf : f = "given" ∨ f = "index") : FnScope ["self", f] ["self", f] (iScp f) := by
  rcases hf with rfl | rfl <;> exact ⟨rfl, rfl, rfl, by decide +kernel, rfl, by decide +kernel, by decide +kernel⟩
theorem fnI (T : XI K C fI f) (hf : f = "given" ∨ f = "index") : ∃ fd, FnG P w K mg base CX0 1 fI fd ["self", f] (spI C f) ∧ (∀ s u v, BindsTo s fd ⟨[u, v], []⟩ ((["self", f] : List Str).zip [u, v])) ∧ (∀ s u v, BindsTo s fd ⟨[u], [(f, v)]⟩ ((["self", f] : List Str).zip [u, v])) := by
  obtain ⟨oc, od, kV, doc, pm, an, cdv, ct, osl, ql, p1, p2, p3, p4, p5, p6, lk, hcd⟩ := T.fn
  have S := scI hf
  refine ⟨_, fn_ofG lk hcd S ?_ ?_, ?_, ?_⟩
  · rintro vs H Q E ⟨a, y, rfl, _⟩
    rfl
  · rintro A outer s H vs Q E gd hr ⟨a, y, rfl, ea, q⟩
    refine ⟨tXst K f (tVar 0) (tVar 1), ?_, ?_⟩
    · rcases hf with rfl | rfl
      · exact pss_one (ps_xst (pe_var rfl (.inl rfl) (by decide) (by decide)) (pe_var rfl (.inl rfl) (by decide) (by decide)))
      · exact pss_one (ps_xst (pe_var rfl (.inl rfl) (by decide) (by decide)) (pe_var rfl (.inl rfl) (by decide) (by decide)))
    · exact ⟨y, rfl, .ref a, rfl, a, C, rfl, T.x, T.no, ea, q⟩
  · rcases hf with rfl | rfl <;> exact fun s u v => .of_eq rfl
  · rcases hf with rfl | rfl <;> exact fun s u v => .of_eq rfl
end
end Al
/-! errors made: rules -/
namespace Al
open PySem PySem.Spec PyProof.Rows L2
section
variable {X : Cx} {pins : List (Addr × Obj)} {σ : L2.St} {H : Hp} {s : Shared} {C fI : Addr} {f : Str} {y : V} {u : Value} {Q : VK}
theorem under_guards {A : Around} {as : Args} (gd : A.guards = some []) : (A.under (.builtin "type.__call__" as)).guards = some [] := by
  unfold Around.under
  dsimp only
  rw [gd]
  rfl
/-- the heap with a new error -/
abbrev hEx (H : Hp) (a dx C : Addr) (f : Str) (y : V) : Hp := upd (upd H dx (exd dx [(f, y)])) a (exo a C (some dx))
theorem hEx_eq {H : Hp} {a dx C : Addr} {o : HO} {f : Str} {y : V} (d : dx ≠ a) : upd (upd (upd H a o) dx (exd dx [(f, y)])) a (exo a C (some dx)) = hEx H a dx C f y := by
  funext b
  show upd (upd (upd H a o) dx (exd dx [(f, y)])) a (exo a C (some dx)) b = upd (upd H dx (exd dx [(f, y)])) a (exo a C (some dx)) b
  by_cases h : b = a
  · subst h
    rw [upd_same, upd_same]
  · rw [upd_ne h, upd_ne h]
    by_cases h2 : b = dx
    · subst h2
      rw [upd_same, upd_same]
    · rw [upd_ne h2, upd_ne h2, upd_ne h]
theorem run_mk {us : List Value} {kw : List (Str × Value)} (T : XI X.K C fI f) (hf : f = "given" ∨ f = "index") (gd : X.A.guards = some []) (hr : Room 2 X.A) (I : Inv X pins σ H s) (ry : RelV y u) (ak : us = [u] ∧ kw = [] ∨ us = [] ∧ kw = [(f, u)])
    (h : ∀ a dx, H a = none → H dx = none → dx ≠ a → Q (.ref a) (hEx H a dx C f y)) : wpAny (model X.prog X.w) X.A (call (.ref C) us kw) (EP X pins σ Q) X.xe s := by
  obtain ⟨B, nid, iid, tl, FB, SF, ini, ov, arg, _⟩ := T.x.bse
  obtain ⟨fd, F, b1, b2⟩ := fnI (P := X.prog) (w := X.w) (K := X.K) (mg := X.mg) (base := X.base) T hf
  obtain ⟨nm, N', qn, bs, bm, hdct, sn, sb, ab, col, dd, k0, k1, k2, k3, k5, hC, hT⟩ := PySem.W.excInit_of I.kIn ini
  have few : us.length ≤ sizeLine := by
    rw [sizeLine_eq]
    rcases ak with ⟨e, _⟩ | ⟨e, _⟩ <;> rw [e] <;> simp
  obtain ⟨hp, gs, dr, tk, sys⟩ := s
  have le : hp.objs.size ≤ hp.objs.size + 1 := Nat.le_succ _
  have na : H (hp.objs.size + 1) = none := I.hok.fresh le
  have kk : ∀ b o, hp.get? b = some o → ((hp.push (xTup us)).push (xObj C hp.objs.size)).get? b = some o := fun b o z => Heap.get?_push_of_some _ (Heap.get?_push_of_some _ z)
  have atX : ((hp.push (xTup us)).push (xObj C hp.objs.size)).get? (hp.objs.size + 1) = some (xObj C hp.objs.size) := by heap_get
  have I2 : Inv X pins σ (upd H (hp.objs.size + 1) (exo (hp.objs.size + 1) C none)) ⟨(hp.push (xTup us)).push (xObj C hp.objs.size), gs, dr, tk, sys⟩ :=
    I.laid (t' := tk) (a := hp.objs.size + 1) (o := exo (hp.objs.size + 1) C none) (h' := (hp.push (xTup us)).push (xObj C hp.objs.size)) kk le (exo_ok atX)
  have vals : Vals [V.ref (hp.objs.size + 1), y] [Value.ref (hp.objs.size + 1), u] := .cons rfl (.cons ry .nil)
  have bnd : BindsTo ⟨(hp.push (xTup us)).push (xObj C hp.objs.size), gs, dr, tk, sys⟩ fd ⟨Value.ref (hp.objs.size + 1) :: us, kw⟩ ((["self", f] : List Str).zip [Value.ref (hp.objs.size + 1), u]) := by
    rcases ak with ⟨e1, e2⟩ | ⟨e1, e2⟩
    · subst e1 e2
      exact b1 _ _ _
    · subst e1 e2
      exact b2 _ _ _
  have want : spI C f [V.ref (hp.objs.size + 1), y] (upd H (hp.objs.size + 1) (exo (hp.objs.size + 1) C none)) (fun v H' => v = .non ∧ Q (.ref (hp.objs.size + 1)) H') (fun _ _ _ => False) := by
    refine ⟨_, y, rfl, upd_same, fun dx n d => ⟨rfl, ?_⟩⟩
    rw [hEx_eq d]
    rw [upd_ne d] at n
    exact h _ dx na n d
  refine wpAny_call (runCall FB hT hC (arg us kw) (PySem.W.looks_findIn I.kIn T.at_) (fun self => PySem.W.bind_fn I.kIn self T.ty) few ?_)
  refine codeAny_mono (F.run _ X.stack _ _ ⟨Value.ref (hp.objs.size + 1) :: us, kw⟩ [Value.ref (hp.objs.size + 1), u] _ _ _ (under_guards gd) ((hr.mono (by decide)).make C us kw) (I2.env0.make C us kw) bnd vals want) ?_
  intro r s' z
  rcases r with er | fl
  · exact (show False from z).elim
  · cases fl with
    | ret v0 =>
      obtain ⟨v, H', I3, rv, ev, q⟩ := I2.after z
      obtain ⟨ev⟩ := ev
      exact ⟨rv, V.ref (hp.objs.size + 1), H', I3, rfl, q⟩
    | next => exact (show False from z).elim
    | brk => exact (show False from z).elim
    | cont => exact (show False from z).elim
end
section
variable {X : Cx} {D : Ct} {env : En} {cs : Cells} {k : KE} {pos p kp : Pos} {e : Expr} {x : Str} {c : Str} {f : Str} {fI : Addr}
theorem ex_post {ca : Str → Addr} {K : PySem.W.Frag} {ps : List Addr} {σ : L2.St} {G R H : Hp} {Q : VK} {d : Da} {y : V} (r : Rep ca K env cs ps σ G R H) (q : Post ca K env ps σ G R k Q) (h : k (.im (.exc c [f] [d])) cs) (o : Dn ca K G y d) :
    ∀ a dx, H a = none → H dx = none → dx ≠ a → Q (.ref a) (hEx H a dx (ca c) f y) := by
  intro a dx na nd ne
  have g1 := Ex.new (o := exd dx [(f, y)]) (r.wd.freshG nd)
  have r1 := r.newG (o := exd dx [(f, y)]) nd
  have na1 : upd H dx (exd dx [(f, y)]) a = none := by
    rw [upd_ne (Ne.symm ne)]
    exact na
  have g2 := Ex.new (o := exo a (ca c) (some dx)) (r1.wd.freshG na1)
  refine q _ cs _ _ R _ h (Gr.data (g1.trans g2)) (r1.newG na1) ?_
  refine Dn.exc1 (fs := [(f, y)]) upd_same (g2 _ _ upd_same) rfl (.cons (o.mono (g1.trans g2)) .nil)
/-- C(e) -/
theorem ax_mk (T : XI X.K (D.ca c) fI f) (hf : f = "given" ∨ f = "index") (gd : X.A.guards = some []) (hr : Room 2 X.A) (hg : Gl X x) (hm : X.mg x = some (.ref (D.ca c))) (h : AX X D e env cs fun v c1 => ∃ d, v = .im d ∧ k (.im (.exc c [f] [d])) c1)
    (hdb : (x == ("__debug__" : Str)) = false := by decide) (he : starEach [e] X.env = (false, eval e X.env) :: starEach [] X.env := by rfl) (hpl : (backTo pos (starEach [] X.env)).any (·.1) = false := by rfl) : AX X D (.Call (.Name x p) [e] [] pos) env cs k := by
  constructor
  intro pins s σ H Q I ⟨ps, G, R, r, px, q⟩
  refine wpAny_Call_Name_kw (ld_glob I hg hm (PySem.W.callWith_K (h₀ := X.base) I.ok.mod.kin T.x.kp ?_ he hpl) hdb)
  refine thn ((pa_cons h pa_nil he).run pos pins s σ H (fun vs H1 => ∃ y, vs = [y] ∧ ∀ a dx, H1 a = none → H1 dx = none → dx ≠ a → Q (.ref a) (hEx H1 a dx (D.ca c) f y)) I ⟨ps, G, R, r, px, fun v c1 y G1 R1 H1 ⟨d, ed, hk⟩ g1 r1 o1 => ?_⟩) ?_
  · subst ed
    exact ⟨y, rfl, ex_post r1 (q.on g1) hk o1⟩
  · rintro us s1 ⟨vs, H1, I1, r1, y, ey, q1⟩
    subst ey
    match us, r1 with
    | [u], .cons ry .nil => exact ⟨I1.kIn, run_mk T hf gd hr I1 ry (.inl ⟨rfl, rfl⟩) q1⟩
/-- C(f=e) -/
theorem ax_mkK (T : XI X.K (D.ca c) fI f) (hf : f = "given" ∨ f = "index") (gd : X.A.guards = some []) (hr : Room 2 X.A) (hg : Gl X x) (hm : X.mg x = some (.ref (D.ca c))) (h : AX X D e env cs fun v c1 => ∃ d, v = .im d ∧ k (.im (.exc c [f] [d])) c1)
    (hdb : (x == ("__debug__" : Str)) = false := by decide) (hall : (backToKw pos (keywordEach [⟨some f, e, kp⟩] X.env)).all (·.1.isSome) = true := by rfl) (hks : (backToKw pos (keywordEach [⟨some f, e, kp⟩] X.env)).filterMap (·.1) = [f] := by rfl)
    (hpl : ((backTo pos (starEach [] X.env)).any (·.1) || (backToKw pos (keywordEach [⟨some f, e, kp⟩] X.env)).any (·.1.isNone)) = false := by rfl) : AX X D (.Call (.Name x p) [] [⟨some f, e, kp⟩] pos) env cs k := by
  constructor
  intro pins s σ H Q I ⟨ps, G, R, r, px, q⟩
  refine wpAny_Call_Name_kw (ld_glob I hg hm (PySem.W.callWith_KW0 (h₀ := X.base) I.ok.mod.kin T.x.kp hall ?_ hpl) hdb)
  refine thn ((pk_cons h pk_nil).run pos pins s σ H (fun vs H1 => ∃ y, vs = [y] ∧ ∀ a dx, H1 a = none → H1 dx = none → dx ≠ a → Q (.ref a) (hEx H1 a dx (D.ca c) f y)) I ⟨ps, G, R, r, px, fun v c1 y G1 R1 H1 ⟨d, ed, hk⟩ g1 r1 o1 => ?_⟩) ?_
  · subst ed
    exact ⟨y, rfl, ex_post r1 (q.on g1) hk o1⟩
  · rintro us s1 ⟨vs, H1, I1, r1, y, ey, q1⟩
    subst ey
    rw [hks]
    match us, r1 with
    | [u], .cons ry .nil => exact ⟨I1.kIn, run_mk T hf gd hr I1 ry (.inr ⟨rfl, rfl⟩) q1⟩
end
end Al
/-! errors made of nothing, read, asked for their class -/
namespace Al
open PySem PySem.Spec PyProof.Rows L2
section
variable {X : Cx} {D : Ct} {env : En} {cs : Cells} {k : KE} {pos p kp : Pos} {e b : Expr} {x : Str} {c : Str} {f : Str}
/-- C(), C without an own __init__ -/
structure X0 (K : PySem.W.Frag) (C : Addr) : Prop where
  x : XC K C
  at_ : ∃ B nid iid tl, ExcBaseFacts B nid iid tl ∧ PySem.W.excInitIn K C tl nid = true ∧ PySem.W.findIn K (.ref C) "__init__" = some (some (.builtin iid))
theorem ax_mk0 (T : X0 X.K (D.ca c)) (hg : Gl X x) (hm : X.mg x = some (.ref (D.ca c))) (h : k (.im (.exc c [] [])) cs) (hdb : (x == ("__debug__" : Str)) = false := by decide) : AX X D (.Call (.Name x p) [] [] pos) env cs k := by
  constructor
  intro pins s σ H Q I ⟨ps, G, R, r, px, q⟩
  obtain ⟨B, nid, iid, tl, FB, ini, hi⟩ := T.at_
  obtain ⟨nm, N', qn, bs, bm, hdct, sn, sb, ab, col, dd, k0, k1, k2, k3, k5, hC, hT⟩ := PySem.W.excInit_of I.kIn ini
  have hi' := PySem.W.looks_findIn (M := model X.prog X.w) I.kIn hi
  refine wpAny_Call_Name_kw (ld_glob I hg hm (PySem.W.callWith_K0 I.kIn T.x.kp ?_) hdb)
  obtain ⟨hp, gs, dr, tk, sys⟩ := s
  refine PySem.W.call_B FB hT hC hi' (by rw [sizeLine_eq]; simp) fun h' kp2 he ht => ?_
  have na : H (hp.objs.size + 1) = none := I.hok.fresh (Nat.le_succ _)
  have J := I.laid (t' := tk) (a := hp.objs.size + 1) (o := exo (hp.objs.size + 1) (D.ca c) none) (h' := h') kp2 (Nat.le_succ _) (exo_ok he)
  have g1 := Ex.new (o := exo (hp.objs.size + 1) (D.ca c) none) (r.wd.freshG na)
  exact ⟨V.ref (hp.objs.size + 1), _, J, rfl, q _ cs _ _ R _ h (Gr.data g1) (r.newG na) (Dn.exc0 upd_same)⟩
/-- a class of the program, a built-in type: as values -/
theorem ax_gcl (hg : Gl X x) (hm : X.mg x = some (.ref (D.ca c))) (h : k (.im (.cl c)) cs) (hd : (x == ("__debug__" : Str)) = false := by decide) : AX X D (.Name x pos) env cs k :=
  (pe_glob hg hm (show RelV (.ref (D.ca c)) _ from rfl) hd).imp fun σ H Q ⟨ps, G, R, r, px, q⟩ => q _ cs _ G R H h (Gr.refl ps G R) r (.cl c)
theorem ax_gty {n : String} (hg : Gl X x) (hm : X.mg x = none) (hv : bootBuiltins x = some (.type n)) (h : k (.im (.ty n)) cs) (hn : x ≠ "__name__" := by decide) (hd : (x == ("__debug__" : Str)) = false := by decide) : AX X D (.Name x pos) env cs k :=
  (pe_bltn (v := .ty n) hg hm hv rfl hn hd).imp fun σ H Q ⟨ps, G, R, r, px, q⟩ => q _ cs _ G R H h (Gr.refl ps G R) r (.ty n)
/-- e.f of an error with the one attribute f -/
theorem ax_exa (h : AX X D e env cs fun v c1 => ∃ c d, v = .im (.exc c [f] [d]) ∧ XC X.K (D.ca c) ∧ PySem.W.findIn X.K (.ref (D.ca c)) f = some none ∧ k (.im d) c1) (hb : attributeBase e f X.env (eval e X.env) = eval e X.env := by rfl) : AX X D (.Attribute e f pos) env cs k := by
  constructor
  intro pins s σ H Q I ⟨ps, G, R, r, px, q⟩
  refine attr_of hb (thn (h.run pins s σ H (fun v H1 => ∃ a C dx y, v = .ref a ∧ XC X.K C ∧ PySem.W.findIn X.K (.ref C) f = some none ∧ H1 a = some (exo a C (some dx)) ∧ H1 dx = some (exd dx [(f, y)]) ∧ Q y H1) I ⟨ps, G, R, r, px, ?_⟩) ?_)
  · intro v c1 w G1 R1 H1 ⟨c, d, ev, T, no, hk⟩ g1 r1 o1
    subst ev
    cases o1 with
    | exc1 ha hd he hl =>
      rename_i a dx fs
      match fs, he, hl with
      | [(f', y)], he, .cons oy .nil =>
        have e1 : f' = f := List.head_eq_of_cons_eq he
        subst e1
        exact ⟨a, D.ca c, dx, y, rfl, T, no, r1.wd.g _ _ ha, r1.wd.g _ _ hd, q _ c1 y G1 R1 H1 hk g1 r1 oy⟩
  · rintro u s1 ⟨v, H1, I1, rv, a, C, dx, y, ev, T, no, ha, hd, hq⟩
    subst ev
    have eu : u = Value.ref a := rv
    subst eu
    obtain ⟨t1, ho⟩ := exo_at I1.hok ha
    obtain ⟨mA, hns, rel⟩ := exd_at I1.hok hd
    obtain ⟨od, hod, hl⟩ := lookIn_ns hns
    have rl : RelO (some y) (mA f) := by
      have z := rel f
      rw [lookup_put, if_pos rfl] at z
      exact z
    obtain ⟨u, hu, ru⟩ := RelO.some_of rl
    have J : PySem.W.InstAt s1.heap a { cls := .ref C, dict := some dx, data := .fields #[.ref t1, .none, .none, .none, .bool false, .none] } C (some od) := ⟨ho, rfl, rfl, hod⟩
    refine PySem.HandSPX.exc_get I1.kIn J T.ga T.gt T.sub (PySem.W.findObj_own T.dct no rfl (by rw [hl, hu])) (handed_of ru) ?_
    exact ⟨y, H1, I1.tok _, ru, hq⟩
/-- isinstance(e, C) of an error -/
def rIsx (K : PySem.W.Frag) : List V → Hp → VK → Prop := fun xs H Q => ∃ a C T u z, xs = [.ref a, T] ∧ ClsV T u ∧ XC K C ∧ (H a = some (exo a C none) ∨ ∃ dx fs, H a = some (exo a C (some dx)) ∧ H dx = some (exd dx fs)) ∧
  PySem.W.specialIn K (.builtin "object.__class__") "__get__" = some (some (.builtin "getset_descriptor.__get__")) ∧ PySem.W.takesIn K (.builtin "object.__class__") = some true ∧ PySem.W.kitOne K (.ref C) u = some z ∧ Q (.bl z) H
theorem cr_isx : CallR X (.builtin "isinstance") (rIsx X.K) := by
  rintro pins s σ H xs us Q I rv ⟨a, C, T, u, z, rfl, ku, xc, at_, g1, g2, e, q⟩
  obtain ⟨u1, u2, rfl, r1, r2⟩ := vals2 rv
  have e2 := ku.eq r2
  subst e2
  have e1 : u1 = Value.ref a := r1
  subst e1
  have hcl : (PySem.W.clsIn X.K C).isSome = true := by
    obtain ⟨cd, h1, _⟩ := PySem.W.any_some xc.dct
    rw [h1]
    rfl
  have inst : ∃ ox od, PySem.W.InstAt s.heap a ox C od := by
    rcases at_ with h | ⟨dx, fs, h1, h2⟩
    · obtain ⟨t1, ho⟩ := exo_at I.hok h
      exact ⟨_, none, ho, rfl, rfl, trivial⟩
    · obtain ⟨t1, ho⟩ := exo_at I.hok h1
      obtain ⟨mA, hns, rel⟩ := exd_at I.hok h2
      obtain ⟨od, hod, hl⟩ := lookIn_ns hns
      exact ⟨_, some od, ho, rfl, rfl, hod⟩
  obtain ⟨ox, od, J⟩ := inst
  refine PySem.W.kia_one (PySem.W.kitx_exc (ox := ox) (od := od) hcl xc.ga xc.gt xc.sub xc.kc g1 g2 xc.ob) I.kIn J e (fun z => nomatch z) fun tk => ?_
  exact ⟨.bl z, H, I.tok tk, rfl, q⟩
/-- what is known of the classes: sb c T, whether an error of class c is one of T -/
structure XKl (K : PySem.W.Frag) (ca : Str → Addr) (sb : Str → Da → Option Bool) : Prop where
  g1 : PySem.W.specialIn K (.builtin "object.__class__") "__get__" = some (some (.builtin "getset_descriptor.__get__"))
  g2 : PySem.W.takesIn K (.builtin "object.__class__") = some true
  ow : ∀ c T z, sb c (.cl T) = some z → PySem.W.kitOne K (.ref (ca c)) (.ref (ca T)) = some z
  bi : ∀ c n z, sb c (.ty n) = some z → PySem.W.kitOne K (.ref (ca c)) (.type n) = some z
def sIsx (K : PySem.W.Frag) (ca : Str → Addr) (sb : Str → Da → Option Bool) : SemA := fun as cs k => ∃ c ks ds T z, as = [.im (.exc c ks ds), .im T] ∧ sb c T = some z ∧ XC K (ca c) ∧ ((∃ n, T = .ty n) ∨ ∃ n, T = .cl n) ∧ k (.im (.bl z)) cs
theorem cs_isx {ca : Str → Addr} {K : PySem.W.Frag} {sb : Str → Da → Option Bool} (W : XKl K ca sb) : CbS ca K (rIsx K) (sIsx K ca sb) := by
  intro env cs ps σ G R H as ws k Q r o ⟨c, ks, ds, T, z, e, hz, xc, hT, h⟩ q
  subst e
  obtain ⟨w, u, rfl, o1, o2⟩ := av2 o
  have fin : ∃ v, ClsV u v ∧ PySem.W.kitOne K (.ref (ca c)) v = some z := by
    rcases hT with ⟨n, e⟩ | ⟨n, e⟩
    · subst e
      cases o2
      exact ⟨_, .ty n, W.bi c n z hz⟩
    · subst e
      cases o2
      exact ⟨_, .own _, W.ow c n z hz⟩
  obtain ⟨v, kv, hv⟩ := fin
  cases o1 with
  | exc0 ha => exact ⟨_, ca c, u, v, z, rfl, kv, xc, .inl (r.wd.g _ _ ha), W.g1, W.g2, hv, r.same q h (.bl z)⟩
  | exc1 ha hd _ _ => exact ⟨_, ca c, u, v, z, rfl, kv, xc, .inr ⟨_, _, r.wd.g _ _ ha, r.wd.g _ _ hd⟩, W.g1, W.g2, hv, r.same q h (.bl z)⟩
theorem ax_isx {sb : Str → Da → Option Bool} {es : List Expr} (W : XKl X.K D.ca sb) (hg : Gl X "isinstance") (hm : X.mg "isinstance" = none) (h : AA X D (e :: es) env cs fun as c1 => sIsx X.K D.ca sb as c1 k)
    (he : starEach (e :: es) X.env = (false, eval e X.env) :: starEach es X.env := by rfl) (hpl : (backTo pos (starEach es X.env)).any (·.1) = false := by rfl) : AX X D (.Call (.Name "isinstance" p) (e :: es) [] pos) env cs k :=
  ax_cb cr_isx (cs_isx W) hg hm (by decide +kernel) h (by decide) (by decide) he hpl
end
end Al
/-! == and !=, in, repr -/
namespace Al
open PySem PySem.Spec PyProof.Rows L2
def kyP : Key → PyData
  | .inl i => PyData.int i
  | .inr x => PyData.str x
mutual
/-- data as the model's == and repr take it -/
def toP : Da → PyData
  | .bl b => .bool b
  | .int i => .int i
  | .str x => .str x
  | .tup l => .tuple (toPL l)
  | .lst l => .list (toPL l)
  | .scr ns => .list (ns.map .int)
  | .dic ks l => .dict ((ks.map kyP).zip (toPL l))
  | _ => .none
def toPL : List Da → List PyData
  | [] => []
  | d :: r => toP d :: toPL r
end
mutual
/-- of none, bools, ints, texts, tuples, lists -/
def okP : Da → Bool
  | .non => true
  | .bl _ => true
  | .int _ => true
  | .str _ => true
  | .tup l => okPL l
  | .lst l => okPL l
  | .scr _ => true
  | _ => false
def okPL : List Da → Bool
  | [] => true
  | d :: r => okP d && okPL r
end
section
variable {ca : Str → Addr} {K : PySem.W.Frag} {G H : Hp}
theorem dp_ints : ∀ ns : List Int, DpAll K H (ns.map V.int) (ns.map PyData.int)
  | [] => .nil
  | n :: ns => .cons (.int n) (dp_ints ns)
mutual
theorem dp_of (g : ∀ a o, G a = some o → H a = some o) : ∀ (d : Da) (v : V), Dn ca K G v d → okP d = true → Dp K H v (toP d)
  | .non, _, h, _ => by
    cases h
    exact .non
  | .bl b, _, h, _ => by
    cases h
    exact .bl b
  | .int i, _, h, _ => by
    cases h
    exact .int i
  | .str x, _, h, _ => by
    cases h
    exact .str x
  | .tup l, _, h, k => by
    cases h with
    | tup t dl => exact .tup (Ex.sqt g t) (dp_all g l _ dl k)
  | .lst l, _, h, k => by
    cases h with
    | lst t dl => exact .lst (.inl (.inl (g _ _ t))) (dp_all g l _ dl k)
  | .scr ns, _, h, _ => by
    cases h with
    | scr t => exact .lst (Ex.sql g t) (dp_ints ns)
  | .ty _, _, _, k => by cases k
  | .cl _, _, _, k => by cases k
  | .dic _ _, _, _, k => by cases k
  | .ins _ _ _, _, _, k => by cases k
  | .exc _ _ _, _, _, k => by cases k
theorem dp_all (g : ∀ a o, G a = some o → H a = some o) : ∀ (l : List Da) (vs : List V), DnL ca K G vs l → okPL l = true → DpAll K H vs (toPL l)
  | [], _, h, _ => by
    cases h
    exact .nil
  | d :: l, _, h, k => by
    cases h with
    | cons h1 h2 =>
      have k2 : okP d = true ∧ okPL l = true := by
        have z : (okP d && okPL l) = true := k
        rwa [Bool.and_eq_true] at z
      exact .cons (dp_of g d _ h1 k2.1) (dp_all g l _ h2 k2.2)
end
end
/-- the data of a value, a cell's content among them -/
def asD (cs : Cells) : AV → Option Da
  | .im d => some d
  | .ow j => match cs[j]? with
    | some (some l) => some (.lst l)
    | _ => none
theorem dp_av {ca : Str → Addr} {K : PySem.W.Frag} {env : En} {cs : Cells} {ps : List Addr} {σ : L2.St} {G R H : Hp} {x : AV} {v : V} {d : Da} (r : Rep ca K env cs ps σ G R H) (o : AVok ca K G ps v x) (e : asD cs x = some d) (k : okP d = true) : Dp K H v (toP d) := by
  cases x with
  | im d' =>
    have e' := Option.some.inj e
    subst e'
    exact dp_of r.wd.g _ _ o k
  | ow j =>
    obtain ⟨p, hp, rfl⟩ := o
    unfold asD at e
    dsimp only at e
    split at e
    · rename_i l hc
      have e' := Option.some.inj e
      subst e'
      obtain ⟨vs, hR, dl⟩ := r.cell j p l hp hc
      exact .lst (.inl (.inl (r.wd.r _ _ hR))) (dp_all r.wd.g l _ dl k)
    · cases e
/-- == (g = id), != (g = not) of data -/
def sEqv (g : Bool → Bool) : Sem2 := fun x y cs k => (∃ i j, x = .im (.str i) ∧ y = .im (.str j) ∧ k (.im (.bl (g (decide (i = j))))) cs) ∨
  ∃ d e, asD cs x = some d ∧ asD cs y = some e ∧ okP d = true ∧ okP e = true ∧ SeqAt.shaped (toP d) = true ∧ SeqAt.shaped (toP e) = true ∧ k (.im (.bl (g (PyData.eqv (toP d) (toP e))))) cs
theorem os_eqv {ca : Str → Addr} {K : PySem.W.Frag} {g : Bool → Bool} : OpS ca K (fun x y H Q => (scal x y = true ∧ Q (.bl (g (decide (x = y)))) H) ∨ ∃ d e, Dp K H x d ∧ Dp K H y e ∧ SeqAt.shaped d = true ∧ SeqAt.shaped e = true ∧ Q (.bl (g (PyData.eqv d e))) H) (sEqv g) := by
  intro env cs ps σ G R H x y v u k Q r ox oy h q
  rcases h with ⟨i, j, rfl, rfl, h⟩ | ⟨d, e, e1, e2, k1, k2, s1, s2, h⟩
  · have a1 := Dn.str_inv ox
    have a2 := Dn.str_inv oy
    subst a1 a2
    refine .inl ⟨rfl, ?_⟩
    have e : decide (V.str i = V.str j) = decide (i = j) := by
      rw [Bool.eq_iff_iff]
      simp
    show Q (.bl (g (decide (V.str i = V.str j)))) H
    rw [e]
    exact r.same q h (Dn.bl _)
  · exact .inr ⟨_, _, dp_av r ox e1 k1, dp_av r oy e2 k2, s1, s2, r.same q h (.bl _)⟩
section
variable {X : Cx} {C : Ct} {env : En} {cs : Cells} {k : KE} {kt : KT} {pos p : Pos} {e a b c : Expr} {es : List Expr}
theorem op_eqE (hu : X.A.units + 64 < cLine) : OpR X (compareOp .Eq) (fun x y H Q => (scal x y = true ∧ Q (.bl (id (decide (x = y)))) H) ∨ ∃ d e, Dp X.K H x d ∧ Dp X.K H y e ∧ SeqAt.shaped d = true ∧ SeqAt.shaped e = true ∧ Q (.bl (id (PyData.eqv d e))) H) := OpR.or op_eq (op_eqD hu)
theorem op_neE (hu : X.A.units + 64 < cLine) : OpR X (compareOp .NotEq) (fun x y H Q => (scal x y = true ∧ Q (.bl (not (decide (x = y)))) H) ∨ ∃ d e, Dp X.K H x d ∧ Dp X.K H y e ∧ SeqAt.shaped d = true ∧ SeqAt.shaped e = true ∧ Q (.bl (not (PyData.eqv d e))) H) := OpR.or op_ne (op_neD hu)
theorem ax_eq (hu : X.A.units + 64 < cLine) (h : AX X C a env cs fun x c1 => AX X C b env c1 fun y c2 => sEqv id x y c2 k) : AX X C (.Compare a [.Eq] [b] pos) env cs k := ax_cmp (op_eqE hu) os_eqv (nomark _) h
theorem ax_ne (hu : X.A.units + 64 < cLine) (h : AX X C a env cs fun x c1 => AX X C b env c1 fun y c2 => sEqv not x y c2 k) : AX X C (.Compare a [.NotEq] [b] pos) env cs k := ax_cmp (op_neE hu) os_eqv (nomark _) h
theorem at_eq (hu : X.A.units + 64 < cLine) (h : AX X C a env cs fun x c1 => AX X C b env c1 fun y c2 => sEqv id x y c2 fun v c3 => ∃ z, v = .im (.bl z) ∧ kt z c3) : AT X C (.Compare a [.Eq] [b] pos) env cs kt := at_cmpR (op_eqE hu) os_eqv (nomark _) h
theorem at_ne (hu : X.A.units + 64 < cLine) (h : AX X C a env cs fun x c1 => AX X C b env c1 fun y c2 => sEqv not x y c2 fun v c3 => ∃ z, v = .im (.bl z) ∧ kt z c3) : AT X C (.Compare a [.NotEq] [b] pos) env cs kt := at_cmpR (op_neE hu) os_eqv (nomark _) h
/-- i in [ints] -/
def sInI : Sem2 := fun x y cs k => ∃ i ns, x = .im (.int i) ∧ (y = .im (.lst (ns.map .int)) ∨ y = .im (.tup (ns.map .int)) ∨ y = .im (.scr ns)) ∧ k (.im (.bl (ns.any fun j => j == i))) cs
theorem inV_ints (i : Int) : ∀ ns : List Int, inV (.int i) (ns.map .int) = ns.any fun j => j == i
  | [] => rfl
  | n :: ns => by
    have z := inV_ints i ns
    unfold inV at z ⊢
    rw [List.map_cons, List.any_cons, List.any_cons, z]
    rfl
theorem flat_ints : ∀ ns : List Int, (ns.map V.int).all flatV = true
  | [] => rfl
  | n :: ns => flat_ints ns
theorem os_inI {ca : Str → Addr} {K : PySem.W.Frag} : OpS ca K (rIn K false) sInI := by
  rintro env cs ps σ G R H x y v u k Q r ox oy ⟨i, ns, rfl, hy, h⟩ q
  have fin : ∃ p, u = .ref p ∧ (SqL K H p (ns.map V.int) ∨ SqT K H p (ns.map V.int)) := by
    rcases hy with rfl | rfl | rfl
    · obtain ⟨p, xs, e, t, l⟩ := Dn.lst_inv oy
      rw [l.ints] at t
      exact ⟨p, e, .inl (.inl (.inl (r.wd.g _ _ t)))⟩
    · obtain ⟨p, xs, e, t, l⟩ := Dn.tup_inv oy
      rw [l.ints] at t
      exact ⟨p, e, .inr (r.wd.sqt t)⟩
    · obtain ⟨p, e, t⟩ := Dn.scr_inv oy
      exact ⟨p, e, .inl (r.wd.sql t)⟩
  obtain ⟨p, e, hq⟩ := fin
  have e1 := Dn.int_inv ox
  subst e1
  refine ⟨p, _, e, hq, rfl, flat_ints ns, ?_⟩
  rw [inV_ints, if_neg Bool.false_ne_true]
  exact r.same q h (Dn.bl _)
theorem ax_in (h : AX X C a env cs fun x c1 => AX X C b env c1 fun y c2 => sInI x y c2 k) (hm : behindInMarks .In b = false := by rfl) : AX X C (.Compare a [.In] [b] pos) env cs k := ax_cmp op_in_seq os_inI hm h
theorem at_in (h : AX X C a env cs fun x c1 => AX X C b env c1 fun y c2 => sInI x y c2 fun v c3 => ∃ z, v = .im (.bl z) ∧ kt z c3) (hm : behindInMarks .In b = false := by rfl) : AT X C (.Compare a [.In] [b] pos) env cs kt := at_cmpR op_in_seq os_inI hm h
end
end Al
/-! repr of data -/
namespace Al
open PySem PySem.Spec PyProof.Rows L2
def plP : PyData → Bool
  | .none => true
  | .bool _ => true
  | .int _ => true
  | .str _ => true
  | _ => false
section
variable {P : Program} {w : World} {K : PySem.W.Frag} {H : Hp} {h : Heap}
theorem pl_reads {v : V} {u : Value} {d : PyData} (x : Dp K H v d) (r : RelV v u) (p : plP d = true) : Reads h u d [] := by
  cases x with
  | non =>
    cases r
    exact .none
  | bl b =>
    cases r
    exact .bool b
  | int i =>
    obtain ⟨t, rfl⟩ := r
    exact .int i t
  | str i =>
    obtain ⟨t, rfl⟩ := r
    exact .str i t
  | lst _ _ => cases p
  | tup _ _ => cases p
theorem kv_reads : ∀ {el : List DictEntry} {vs : List (Key × Value)} {kvs : List (Key × V)} {es : List PyData}, Pairs (mixKind P w) el vs → KV kvs vs → DpAll K H (kvs.map (·.2)) es → es.all plP = true →
    ReadsAll h (el.map (·.key)) (((kvs.map fun q => kyP q.1).zip es).map (·.1)) [] ∧ ReadsAll h (el.map (·.val)) (((kvs.map fun q => kyP q.1).zip es).map (·.2)) []
  | _, _, _, _, .nil, .nil, .nil, _ => ⟨.nil, .nil⟩
  | _, _, _, _, .cons k1 k2 kt, .cons r1 rt, .cons d1 dt, p => by
    rw [List.all_cons, Bool.and_eq_true] at p
    obtain ⟨i1, i2⟩ := kv_reads kt rt dt p.2
    obtain ⟨e, rv⟩ := r1
    refine ⟨?_, ?_⟩
    · refine ReadsAll.cons (as := []) ?_ i1
      dsimp only
      rcases keyIs_shape k1 with ⟨i, t, e1, e2⟩ | ⟨i, t, e1, e2⟩
      · rw [e2, e, e1]
        exact .int i t
      · rw [e2, e, e1]
        exact .str i t
    · refine ReadsAll.cons (as := []) ?_ i2
      dsimp only
      rw [k2]
      exact pl_reads d1 rv p.1
end
section
variable {X : Cx} {pins : List (Addr × Obj)} {σ : L2.St} {H : Hp} {s : Shared}
/-- what repr may be asked of -/
def RpD (K : PySem.W.Frag) (H : Hp) (v : V) (d : PyData) : Prop := (Dp K H v d ∧ d.hasDict = false) ∨ ∃ a kvs es, v = .ref a ∧ H a = some (.dK kvs) ∧ DpAll K H (kvs.map (·.2)) es ∧ es.all plP = true ∧ d = .dict ((kvs.map fun q => kyP q.1).zip es)
def rRpr (K : PySem.W.Frag) : List V → Hp → VK → Prop := fun xs H Q => ∃ x d, xs = [x] ∧ RpD K H x d ∧ d.showable = true ∧ d.shown.length ≤ 100000 ∧ d.depth ≤ 64 ∧ Q (.str d.shown) H
theorem cr_repr (gd : X.A.guards = some []) (hu : X.A.units + 70 < cLine) : CallR X (.builtin "repr") (rRpr X.K) := by
  rintro pins s σ H xs us Q I r ⟨x, d, rfl, hd, hs, hz, hdp, q⟩
  obtain ⟨u, rfl, ru⟩ := vals1 r
  have fin : ∀ {a : Addr} {as : List Addr}, u = .ref a → Reads s.heap (.ref a) d as → (d.hasDict = true → sysModules ∉ as) → wpAny (model X.prog X.w) X.A (call (.builtin "repr") [u]) (EP X pins σ Q) X.xe s := by
    intro a as e rd hsm
    subst e
    refine repr_of_reads' rd hs hsm gd (by omega) (fun _ _ z => z) (fun h' u tk kp => ?_) (sz_of hz)
    exact ⟨.str _, H, I.kept kp, ⟨_, rfl⟩, q⟩
  rcases hd with ⟨hd, nd⟩ | ⟨a, kvs, es, rfl, ha, hes, pl, rfl⟩
  · have hd' := hd
    cases hd with
    | non =>
      cases ru
      exact PySem.P.repr_of_none ⟨.str _, H, I.tok _, ⟨_, rfl⟩, q⟩
    | bl b =>
      cases ru
      exact PySem.P.repr_of_bool ⟨.str _, H, I.tok _, ⟨_, rfl⟩, q⟩
    | int i =>
      obtain ⟨t, rfl⟩ := ru
      exact PySem.P.repr_of_int (of_decide_eq_true hs) ⟨.str _, H, I.tok _, ⟨_, rfl⟩, q⟩
    | str i =>
      obtain ⟨t, rfl⟩ := ru
      exact PySem.P.repr_of_str ⟨.str _, H, I.tok _, ⟨_, rfl⟩, q⟩ (sz_of hz)
    | lst t dl =>
      obtain ⟨as, rd⟩ := Dp.reads I _ _ u hd' ru
      have e : u = .ref _ := ru
      subst e
      exact fin rfl rd fun z => by
        rw [nd] at z
        cases z
    | tup t dl =>
      obtain ⟨as, rd⟩ := Dp.reads I _ _ u hd' ru
      have e : u = .ref _ := ru
      subst e
      exact fin rfl rd fun z => by
        rw [nd] at z
        cases z
  · have e : u = .ref a := ru
    subst e
    obtain ⟨_, nsm, vs, kv, o, el, ep, ho, ex, hdt, kof, prs, nod⟩ := dk_of I.hok ha
    obtain ⟨i1, i2⟩ := kv_reads (h := s.heap) (K := X.K) (H := H) prs kv hes pl
    refine fin rfl (Reads.dict ho ex.1 hdt i1 i2) fun _ m => ?_
    rcases List.mem_cons.mp m with e | m
    · rw [e] at nsm
      simp at nsm
    · simp at m
end
mutual
/-- repr may be asked of it -/
def okR : Da → Bool
  | .dic ks l => okPL l && ks.length == l.length && (toPL l).all plP
  | d => okP d && !(toP d).hasDict
end
section
variable {X : Cx} {C : Ct} {env : En} {cs : Cells} {k : KE} {pos p : Pos} {e a b c : Expr} {es : List Expr}
def sRpr : SemA := fun as cs k => ∃ d, as = [.im d] ∧ okR d = true ∧ (toP d).showable = true ∧ (toP d).shown.length ≤ 100000 ∧ (toP d).depth ≤ 64 ∧ k (.im (.str (toP d).shown)) cs
theorem rp_of {ca : Str → Addr} {K : PySem.W.Frag} {G H : Hp} (g : ∀ a o, G a = some o → H a = some o) {d : Da} {v : V} (h : Dn ca K G v d) (k : okR d = true) : RpD K H v (toP d) := by
  have gen : (okP d && !(toP d).hasDict) = true → RpD K H v (toP d) := fun z => by
    rw [Bool.and_eq_true] at z
    exact .inl ⟨dp_of g d v h z.1, by simpa using z.2⟩
  cases d with
  | dic ks l =>
    cases h with
    | dic ha hk hl =>
      rename_i a kvs
      have k' : (okPL l && ks.length == l.length && (toPL l).all plP) = true := k
      rw [Bool.and_eq_true, Bool.and_eq_true] at k'
      refine .inr ⟨a, kvs, toPL l, rfl, g _ _ ha, dp_all g l _ hl k'.1.1, k'.2, ?_⟩
      rw [← hk, toP, List.map_map]
      rfl
  | _ => exact gen k
theorem cs_rpr {ca : Str → Addr} {K : PySem.W.Frag} : CbS ca K (rRpr K) sRpr := by
  rintro env cs ps σ G R H as ws k Q r o ⟨d, rfl, ok, s1, s2, s3, h⟩ q
  obtain ⟨w, rfl, o1⟩ := av1 o
  exact ⟨w, _, rfl, rp_of r.wd.g o1 ok, s1, s2, s3, r.same q h (Dn.str _)⟩
theorem ax_repr (gd : X.A.guards = some []) (hu : X.A.units + 70 < cLine) (hg : Gl X "repr") (hm : X.mg "repr" = none) (h : AA X C (e :: es) env cs fun as c1 => sRpr as c1 k) (he : starEach (e :: es) X.env = (false, eval e X.env) :: starEach es X.env := by rfl) (hpl : (backTo pos (starEach es X.env)).any (·.1) = false := by rfl) :
    AX X C (.Call (.Name "repr" p) (e :: es) [] pos) env cs k := ax_cb (cr_repr gd hu) cs_rpr hg hm (by decide +kernel) h (by decide) (by decide) he hpl
end
end Al
/-! dict displays, l[:n], x, y = a, b, defs that come to a fresh list, calls with a fresh list -/
namespace Al
open PySem PySem.Spec PyProof.Rows L2
section
variable {X : Cx} {C : Ct} {env : En} {cs : Cells} {k : KE} {pos p p2 : Pos} {e a b c : Expr} {es : List Expr}
theorem Rep.dic {ca : Str → Addr} {K : PySem.W.Frag} {env : En} {cs : Cells} {ps : List Addr} {σ : L2.St} {G R H : Hp} {k : KE} {Q : VK} {kvs : List (Key × V)} {ks : List Key} {ds : List Da} {p : Addr} (r : Rep ca K env cs ps σ G R H) (q : Post ca K env ps σ G R k Q) (h : k (.im (.dic ks ds)) cs) (e : kvs.map (·.1) = ks) (o : DnL ca K G (kvs.map (·.2)) ds) (hp : H p = none) : Q (.ref p) (upd H p (.dK kvs)) :=
  have x := Ex.new (o := HO.dK kvs) (r.wd.freshG hp)
  q _ cs _ _ R _ h (Gr.data x) (r.newG hp) (Dn.dic upd_same e (o.mono x))
/-- {} -/
theorem ax_dic0 (h : k (.im (.dic [] [])) cs) : AX X C (.Dict [] [] pos) env cs k := pe_dnewK.imp fun σ H Q ⟨ps, G, R, r, px, q⟩ => fun p hp => r.dic (kvs := []) q h rfl .nil hp
/-- {"..": i} -/
theorem ax_dic1 {x : Str} {i : Int} {j1 j2 : Nat} {q1 q2 : Pos} (h : k (.im (.dic [.inr x] [.int i])) cs) : AX X C (.Dict [some (.Constant (.str x) j1 q1)] [.Constant (.int i) j2 q2] pos) env cs k :=
  (pe_disp (trs := [(tC (.str x), tC (.int i))]) (pps_cons pe_str pe_int pps_nil) rfl rfl (by simp) (by simp)).imp fun σ H Q ⟨ps, G, R, r, px, q⟩ => fun p hp => by
    have z := r.dic (kvs := [(.inr x, .int i)]) q h rfl (.cons (.int i) .nil) hp
    refine ⟨upd_same, [(.inr x, .int i)], rfl, by simp, ?_⟩
    have e : upd (upd H p (.dK [])) p (.dK (mergeK [] [(Sum.inr x, V.int i)])) = upd H p (.dK [(Sum.inr x, V.int i)]) := by
      funext b
      by_cases hb : b = p
      · subst hb
        rw [upd_same, upd_same]
        rfl
      · rw [upd_ne hb, upd_ne hb, upd_ne hb]
    rw [e]
    exact z
/-- l[:n] of the script, a list, a cell -/
def sTake : Sem2 := fun x y cs k => ∃ n : Nat, y = .im (.int (n : Int)) ∧ ((∃ ns, x = .im (.scr ns) ∧ k (.im (.lst ((ns.take n).map .int))) cs) ∨ ∃ l, asD cs x = some (.lst l) ∧ k (.im (.lst (l.take n))) cs)
theorem cut_take {xs : List V} {n : Nat} : cutV xs none (some (n : Int)) = xs.take n := by
  unfold cutV
  rw [HT.sIx_none, HT.sIx_nat, List.drop_zero, Nat.sub_zero]
  rw [List.take_eq_take_iff]
  omega
theorem ax_take (h : AX X C a env cs fun x c1 => AX X C b env c1 fun y c2 => sTake x y c2 k) : AX X C (.Subscript a (.Slice none (some b) none p2) pos) env cs k :=
  (pe_slice sl_list h po_none (po_some (pe_x2 (X := X) (C := C) (env := env) (k2 := fun x y c2 => sTake x y c2 k)))).imp fun σ H Q ⟨ps, G, R, r, px, q⟩ => ⟨ps, G, R, r, px, fun x c1 v G1 R1 H1 hk g1 r1 o1 =>
    ⟨x, c1, hk, ps, G1, R1, r1, px.on g1, fun y c2 u G2 R2 H2 hf g2 r2 o2 => by
      obtain ⟨n, rfl, hx⟩ := hf
      refine ⟨(n : Int), Dn.int_inv o2, ?_⟩
      have o1' := o1.mono g2.ex (fun _ _ z => z)
      rcases hx with ⟨ns, rfl, hk2⟩ | ⟨l, hl, hk2⟩
      · obtain ⟨p, e1, t1⟩ := Dn.scr_inv o1'
        refine ⟨p, _, e1, r2.wd.sql t1, fun z hz => ?_⟩
        rw [cut_take, ← List.map_take]
        exact r2.lst (q.on (g1.trans g2)) hk2 (DnL.of_ints _) hz
      · have fin : ∃ p xs, v = .ref p ∧ H2 p = some (.lst xs) ∧ DnL C.ca X.K G2 xs l := by
          cases x with
          | im d =>
            have e' := Option.some.inj hl
            subst e'
            obtain ⟨p, xs, e1, t1, dl⟩ := Dn.lst_inv o1'
            exact ⟨p, xs, e1, r2.wd.g _ _ t1, dl⟩
          | ow j =>
            obtain ⟨p, hp, e1⟩ := o1'
            unfold asD at hl
            dsimp only at hl
            split at hl
            · rename_i l' hc
              have e' := Da.lst.inj (Option.some.inj hl)
              subst e'
              obtain ⟨vs, hR, dl⟩ := r2.cell j p l' hp hc
              exact ⟨p, vs, e1, r2.wd.r _ _ hR, dl⟩
            · cases hl
        obtain ⟨p, xs, e1, t1, dl⟩ := fin
        refine ⟨p, xs, e1, .inl (.inl t1), fun z hz => ?_⟩
        rw [cut_take]
        exact r2.lst (q.on (g1.trans g2)) hk2 (dl.take n) hz⟩⟩
end
section
variable {X : Cx} {C : Ct} {env : En} {cs : Cells} {P : Pst} {pos pt pt2 px py : Pos} {e a b c : Expr} {es : List Expr}
/-- x, y = a, b -/
theorem as_par (i j : Nat) {x y : Str} {kt k2 : Nat} (hc : X.calm = true) (hN : X.N.Nodup) (hi : X.N[i]? = some x) (hj : X.N[j]? = some y) (hij : i ≠ j) (hx : X.env.scope.names.lookup x = some .local) (hy : X.env.scope.names.lookup y = some .local) (li : i < env.length) (lj : j < env.length)
    (h : AA X C [a, b] env cs fun as c1 => ∃ d1 d2, as = [.im d1, .im d2] ∧ P.nx ((env.set i (some (.im d1))).set j (some (.im d2))) c1)
    (hw : swappedStores [.Tuple [.Name x px, .Name y py] kt pt] (.Tuple [a, b] k2 pt2) X.env = pure (some [x, y]) := by rfl) (hs : swapsWithSole [.Tuple [.Name x px, .Name y py] kt pt] (.Tuple [a, b] k2 pt2) pos.line X.env = pure false := by rfl) :
    AS X C (.Assign [.Tuple [.Name x px, .Name y py] kt pt] (.Tuple [a, b] k2 pt2) pos) env cs P :=
  (ps_par hc hN hi hj hij hx hy h hw hs).imp fun D σ H ⟨ps, G, R, r, px, q⟩ => ⟨ps, G, R, r, px, fun as c1 ws G1 R1 H1 hk g1 r1 o1 => by
    obtain ⟨d1, d2, rfl, hk2⟩ := hk
    match ws, o1 with
    | [w1, w2], ⟨o1, o2, _⟩ =>
      refine ⟨w1, w2, rfl, ?_⟩
      exact q.nx _ c1 ps _ G1 R1 H1 hk2 g1 ((r1.setE (a := .im d1) o1 li).setE (a := .im d2) o2 (by rw [List.length_set]; exact lj))⟩
/-- return of a fresh list: a new cell -/
theorem as_retL (h : AL X C e env cs fun ds c1 => P.rt (.ow c1.length) (c1 ++ [some ds])) : AS X C (.Return (some e) pos) env cs P :=
  (ps_ret h).imp fun D σ H ⟨ps, G, R, r, px, q⟩ => ⟨ps, G, R, r, px, fun ds c1 p vs G1 R1 H1 h1 g1 r1 hp dl => by
    have r2 := r1.newC hp dl
    exact q.rt _ env _ (ps ++ [p]) σ _ G1 _ _ h1 (g1.trans (Gr.newC r1 hp)) r2 ⟨p, by rw [← r1.len, List.getElem?_append_right (Nat.le_refl _), Nat.sub_self]; rfl, rfl⟩⟩
end
/-! defs that come to a fresh list -/
abbrev PhF := List Da → (List Da → Prop) → Prop
def spF (ca : Str → Addr) (K : PySem.W.Frag) (n : Nat) (φ : PhF) : Sp := fun vs H Q _ => ∃ G R ds, vs.length = n ∧ Wd G R H ∧ DnL ca K G vs ds ∧ φ ds fun es => ∀ p us G' H', Ex G G' → R p = none → Wd G' (upd R p (.lst us)) H' → DnL ca K G' us es → Q (.ref p) H'
theorem Wd.cut {G R H : Hp} {p : Addr} {o : HO} (w : Wd G (upd R p o) H) (hR : R p = none) : Wd G R (Al.cut H p) ∧ upd (Al.cut H p) p o = H := by
  have e1 : (upd R p o) p = some o := upd_same
  have hG := w.noG e1
  refine ⟨⟨fun a u e => ?_, fun a u e => ?_, fun a u e => ?_⟩, ?_⟩
  · rw [cut_ne (fun z => by rw [z, hG] at e; cases e)]
    exact w.g a u e
  · have ne : a ≠ p := fun z => by
      rw [z, hR] at e
      cases e
    rw [cut_ne ne]
    exact w.r a u (by rw [upd_ne ne]; exact e)
  · have z := w.d a u e
    by_cases ne : a = p
    · rw [ne]
      exact hR
    · rw [upd_ne ne] at z
      exact z
  · funext b
    by_cases hb : b = p
    · rw [hb, upd_same]
      exact (w.r _ _ e1).symm
    · rw [upd_ne hb, cut_ne hb]
section
variable {X : Cx} {C : Ct} {env : En} {cs : Cells} {kk : KE} {kl : KL} {k n : Nat} {f : Addr} {fd : FuncData} {ps : List Str} {x : Str} {p pos : Pos} {e : Expr} {es : List Expr}
theorem al_callF {φ : PhF} (F : FnG X.prog X.w X.K X.mg X.base CX0 k f fd ps (spF C.ca X.K n φ)) (gd : X.A.guards = some []) (hr : Room k X.A) (hg : Gl X x) (hm : X.mg x = some (.ref f)) (hk : PySem.W.keepIn X.K (.ref f) = true) (hb : Binds X.K fd ps [])
    (h : AA X C (e :: es) env cs fun as c1 => imL as fun ds => ds.length = n ∧ φ ds (fun l => kl l c1)) (hdb : (x == ("__debug__" : Str)) = false := by decide) (he : starEach (e :: es) X.env = (false, eval e X.env) :: starEach es X.env := by rfl)
    (hpl : (backTo pos (starEach es X.env)).any (·.1) = false := by rfl) (mono : ∀ ds k1 k2, φ ds k1 → (∀ d, k1 d → k2 d) → φ ds k2 := by assumption) :
    AL X C (.Call (.Name x p) (e :: es) [] pos) env cs kl :=
  (pe_callG F gd hr hg hm hk hb pass0 h hdb he hpl).imp fun σ H Q ⟨pz, G, R, r, px, q⟩ => ⟨pz, G, R, r, px, fun as c1 ws G1 R1 H1 h1 g1 r1 o1 => by
    obtain ⟨ds, e1, hn, hφ⟩ := imL_of h1
    subst e1
    have dl := AVokL.ims o1
    refine ⟨G1, R1, ds, dl.length.trans hn, r1.wd, dl, mono _ _ _ hφ fun l hl p us G2 H2 ex hR w du => ?_⟩
    obtain ⟨w2, e2⟩ := w.cut hR
    have r2 : Rep C.ca X.K env c1 pz σ G2 R1 (cut H2 p) := r1.grow ex w2
    have z := q l c1 p us G2 R1 (cut H2 p) hl (g1.trans (Gr.data ex)) r2 cut_same du
    rw [e2] at z
    exact z⟩
/-- f(e), e a fresh list, which f may change -/
theorem ax_callJ1 {φ : PhJ} (F : FnG X.prog X.w X.K X.mg X.base CX0 k f fd ps (spJ C.ca X.K 0 φ)) (gd : X.A.guards = some []) (hr : Room k X.A) (hg : Gl X x) (hm : X.mg x = some (.ref f)) (hk : PySem.W.keepIn X.K (.ref f) = true) (hb : Binds X.K fd ps [])
    (h : AL X C e env cs fun js c1 => φ js [] (fun d _ => kk (.im d) c1) fun _ _ _ _ => False) (hdb : (x == ("__debug__" : Str)) = false := by decide) (he : starEach [e] X.env = (false, eval e X.env) :: starEach [] X.env := by rfl)
    (hpl : (backTo pos (starEach [] X.env)).any (·.1) = false := by rfl) (mono : ∀ js ds k1 k2 x1 x2, φ js ds k1 x1 → (∀ d js', k1 d js' → k2 d js') → (∀ c ks es js', x1 c ks es js' → x2 c ks es js') → φ js ds k2 x2 := by assumption) :
    AX X C (.Call (.Name x p) [e] [] pos) env cs kk :=
  (pe_callG F gd hr hg hm hk hb pass0 (pa_cons h pa_nil he) hdb he hpl).imp fun σ H Q ⟨pz, G, R, r, px, q⟩ => ⟨pz, G, R, r, px, fun js c1 p vs G1 R1 H1 h1 g1 r1 hp dl => by
    have r2 := r1.newC hp dl
    refine ⟨G1, upd R1 p (.lst vs), p, vs, js, [], [], rfl, rfl, r1.wd.newR hp, upd_same, dl, .nil, mono _ _ _ _ _ _ h1 (fun d js' hd v us' G2 H2 ex du w o => ?_) fun c ks es js' hf => hf.elim⟩
    have hR := r1.wd.freshR hp
    refine q _ c1 v G2 R1 H2 hd (g1.trans (Gr.data ex)) (r1.grow ex (w.less fun a o e => ?_)) o
    have ne : a ≠ p := fun z => by
      rw [z, hR] at e
      cases e
    rw [upd_ne ne, upd_ne ne]
    exact e⟩
end
section
variable {ca : Str → Addr} {P : Program} {w : World} {K : PySem.W.Frag} {mg : Str → Option Value} {base : Heap}
theorem rep0 {N ps : List Str} {sc : Scope} {n : Nat} {G R H : Hp} {vs : List V} {ds : List Da} (S : FnScope N ps sc) (hn : ps.length = n) (wd : Wd G R H) (dl : DnL ca K G vs ds) (hl : vs.length = n) : Rep ca K (env0 N (ds.map .im)) [] [] (start N vs) G R H := by
  have len : n ≤ N.length := by
    have z := congrArg List.length S.pre
    rw [List.length_take] at z
    omega
  constructor
  · exact wd
  · exact List.nodup_nil
  · rfl
  · intro k p ds h
    simp at h
  · intro k p h
    simp at h
  · intro i a e
    have e2 : (ds.map AV.im)[i]? = some a := get_pad e
    rw [List.getElem?_map] at e2
    obtain ⟨d, hd, ed⟩ := Option.map_eq_some_iff.mp e2
    subst ed
    obtain ⟨v, hv, o⟩ := dl.get hd
    refine ⟨v, ?_, o⟩
    show (vs.map some ++ _)[i]? = _
    rw [List.getElem?_append_left (by rw [List.length_map]; exact (List.getElem?_eq_some_iff.mp hv).1), List.getElem?_map, hv]
    rfl
  · have z := dl.length
    simp [L2.start, env0]
    omega
theorem fnF {nm ql : Str} {st : Stmt} {f : Addr} {fd : FuncData} {N ps : List Str} {k n : Nat} {φ : PhF} (F : Fun K nm ql st f fd) (S : FnScope N ps (defScope st)) (hn : ps.length = n)
    (go : ∀ (cdv : Value) (A : Around) (outer : List PySem.Env) (s : Shared) (H : Hp) (E : XK) (ds : List Da) (kd : List Da → Prop), A.guards = some [] → Room k (A.deeper (envOfC ql (defScope st) s.heap.objs.size f cdv)) → ds.length = n → φ ds kd →
      AB (cxOf CX0 P w K mg base N ql (defScope st) f cdv A outer s H E).nox ⟨ca, fun _ _ _ _ => True, fun _ _ _ _ _ => False⟩ (defBody st) (env0 N (ds.map .im)) [] { nx := fun _ _ => False, rt := fun a cs => ∃ j l, a = .ow j ∧ cs[j]? = some (some l) ∧ kd l })
    (mono : ∀ ds k1 k2, φ ds k1 → (∀ d, k1 d → k2 d) → φ ds k2) : FnG P w K mg base CX0 (k + 1) f fd ps (spF ca K n φ) := by
  obtain ⟨oc, od, kV, doc, pm, an, cdv, ct, osl, rfl, lk, hcd⟩ := F.ex
  refine fn_ofG lk hcd S (fun vs H Q E ⟨_, _, _, h, _⟩ => h.trans hn.symm) fun A outer s H vs Q E gd hr ⟨G, R, ds, hl, wd, dl, hφ⟩ => ?_
  have hb := go cdv A outer s H E ds _ gd hr (dl.length.symm.trans hl) (mono _ _ _ hφ fun _ h => h)
  refine ⟨_, PSs.nox hb, ?_⟩
  have rep : Rep ca K (env0 N (ds.map .im)) [] [] (start N vs) G R H := rep0 S hn wd dl hl
  refine ⟨[], G, R, rep, fun c ks ds env cs ps' dd σ G' R' H' h => h.elim, ⟨?_, ?_, ?_, ?_⟩⟩
  · intro env' cs' ps' σ' G' R' H' h g r
    exact h.elim
  · rintro a env' cs' ps' σ' v G' R' H' ⟨j, l, rfl, hc, h⟩ g r ⟨p, hp, ev⟩
    subst ev
    obtain ⟨us, hR, du⟩ := r.cell j p l hp hc
    have m : p ∈ ps' := List.mem_iff_getElem?.mpr ⟨j, hp⟩
    have n0 : R p = none := g.new p m (by simp)
    refine h p us G' H' g.ex n0 (r.wd.less fun a o e => ?_) du
    by_cases ne : a = p
    · subst ne
      rw [upd_same] at e
      rw [← e]
      exact hR
    · rw [upd_ne ne] at e
      exact g.oth a o (by simp) e
  · intro env' cs' ps' σ' G' R' H' h
    exact h.elim
  · intro env' cs' ps' σ' G' R' H' h
    exact h.elim
end
end Al
/-! the end of a law whose def is told by FnG -/
namespace Al
open PySem PySem.Spec PyProof.Rows L2
section
variable {P : Program} {w : World} {K : PySem.W.Frag} {mg mb : Str → Option Value} {k : Nat} {fa a : Addr} {fd : FuncData} {x : Str} {sp : Sp} {s : Shared} {us : List Value} {ns : List Int}
/-- from an abstract heap H that holds the script at most -/
theorem end_from (inK : K.In s.heap) (top : s.heap.Ns mainGlobals mg) (bl : s.heap.Ns builtinsNs mb) (blt : ∀ x : Str, x ≠ "__name__" → mb x = bootBuiltins x) (lim : s.heap.NoLimit) (gen : s.gens = #[])
    (scr : s.heap.get? a = some { cls := .type "list", data := .seq us.toArray }) (room : Room k callerA) (F : ∀ base : Heap, K.In base → base.Ns mainGlobals mg → FnG P w K mg base CX0 k fa fd [x] sp)
    (bnd : ∀ (s : Shared) (u : Value), BindsTo s fd ⟨[u], []⟩ [(x, u)]) (H : Hp) (only : Only H) (ok : HOk P w H s.heap) (at_a : ∀ b, H b ≠ none → b = a) (not_k : H a ≠ none → K.lookup a = none) (want : sp [.ref a] H (fun v _ => v = .bl true) fun _ _ _ => False) :
    codeAny (model P w) callerA (.call (.ref fa) ⟨[.ref a], []⟩) (fun r s' => r = .ok (.ret (.bool true)) ∧ OldK s.heap s'.heap ∧ s'.os = s.os ∧ AllBare s'.gens) s := by
  have hid : ∀ b, H b ≠ none → b = a ∧ K.lookup a = none := fun b n => by
    have e := at_a b n
    subst e
    exact ⟨rfl, not_k n⟩
  have vis : ∀ {b : Addr} {o : Obj}, s.heap.get? b = some o → (b = a → False) → (hidT s.heap H).get? b = some o := fun {b o} e n => by
    refine hidT_get e ?_
    cases q : H b with
    | none => rfl
    | some u => exact (n (at_a b (by rw [q]; exact fun z => nomatch z))).elim
  have dct : ∀ {b : Addr} {m : Str → Option Value}, s.heap.Ns b m → (hidT s.heap H).Ns b m := by
    rintro b m ⟨o, es, ep, e, d, r⟩
    refine ⟨o, es, ep, vis e fun z => ?_, d, r⟩
    subst z
    rw [scr] at e
    have d' := Option.some.inj e
    subst d'
    exact nomatch (show Data.seq us.toArray _ = Data.dict es ep from d)
  have frag : K.In (hidT s.heap H) := by
    intro b o e
    by_cases z : b = a
    · subst z
      refine hidT_get (inK b o e) ?_
      cases q : H b with
      | none => rfl
      | some u =>
        have n := not_k (by rw [q]; exact fun z => nomatch z)
        rw [n] at e
        cases e
    · exact vis (inK b o e) z
  have md : Mod K mg (hidT s.heap H) := by
    obtain ⟨mc, l1, l2⟩ := lim
    exact ⟨frag, dct top, ⟨mb, dct bl, blt⟩, ⟨mc, dct l1, l2⟩⟩
  have start : Env0 P w K mg (hidT s.heap H) callerA [] s H := by
    refine ⟨rfl, md, fun b o e => of_hidT e, ?_, trivial, fun b m => ?_, ok, .of_eq gen⟩
    · rw [hidT_size]
      exact Nat.le_refl _
    · exact (List.not_mem_nil m).elim
  refine codeAny_mono ((F _ frag (dct top)).run callerA [] s H ⟨[.ref a], []⟩ [.ref a] [.ref a] _ _ rfl room start (bnd s (.ref a)) (.cons rfl .nil) want) ?_
  intro r s' z
  rcases r with er | fl
  · exact (show False from z).elim
  cases fl with
  | ret u =>
    obtain ⟨v, H', os', bare', un, ok', rv, hv⟩ := z
    have hv' : v = .bl true := hv
    subst hv'
    have eu : u = Value.bool true := rv
    subst eu
    refine ⟨rfl, OldK.of_keep ?_, os', bare'⟩
    intro b o e
    cases q : H b with
    | none => exact un.keep b o e q (List.not_mem_nil ·) (List.not_mem_nil ·)
    | some u =>
      rcases only b with n | ⟨ob, xs, n⟩
      · rw [q] at n
        cases n
      · obtain ⟨y1, _⟩ := ok b _ n
        obtain ⟨y2, _⟩ := ok' b _ (un.frzs b ob _ n)
        rw [y1] at e
        rw [← e]
        exact y2
  | next => exact (show False from z).elim
  | brk => exact (show False from z).elim
  | cont => exact (show False from z).elim
theorem end_of (inK : K.In s.heap) (top : s.heap.Ns mainGlobals mg) (bl : s.heap.Ns builtinsNs mb) (blt : ∀ x : Str, x ≠ "__name__" → mb x = bootBuiltins x) (lim : s.heap.NoLimit) (gen : s.gens = #[])
    (scr : s.heap.get? a = some { cls := .type "list", data := .seq us.toArray }) (inz : IntsAre us ns) (few : ns.length ≤ sizeLine) (room : Room k callerA) (F : ∀ base : Heap, K.In base → base.Ns mainGlobals mg → FnG P w K mg base CX0 k fa fd [x] sp)
    (bnd : ∀ (s : Shared) (u : Value), BindsTo s fd ⟨[u], []⟩ [(x, u)]) (want : ∀ H : Hp, Only H → SqL K H a (ns.map V.int) → sp [.ref a] H (fun v _ => v = .bl true) fun _ _ _ => False) :
    codeAny (model P w) callerA (.call (.ref fa) ⟨[.ref a], []⟩) (fun r s' => r = .ok (.ret (.bool true)) ∧ OldK s.heap s'.heap ∧ s'.os = s.os ∧ AllBare s'.gens) s := by
  have vals := vals_ints inz
  cases hk : K.lookup a with
  | some o =>
    have same := (inK a o hk).symm.trans scr
    have eo := Option.some.inj same
    subst eo
    have sq : SqL K (fun _ => none) a (ns.map V.int) := .inr ⟨_, us.toArray, _, hk, rfl, rfl, rfl, by rw [List.size_toArray, inz.length]; exact few, by simpa using vals⟩
    refine end_from inK top bl blt lim gen scr room F bnd (fun _ => none) (fun _ => .inl rfl) ?_ (fun b n => (n rfl).elim) (fun n => (n rfl).elim) (want _ (fun _ => .inl rfl) sq)
    intro b u z
    exact nomatch (show (none : Option HO) = some u from z)
  | none =>
    let H : Hp := fun b => if b = a then some (.frz { cls := .type "list", data := .seq us.toArray } (.lst (ns.map V.int))) else none
    have Ha : H a = some (.frz { cls := .type "list", data := .seq us.toArray } (.lst (ns.map V.int))) := if_pos rfl
    have Hn : ∀ b, b ≠ a → H b = none := fun b n => if_neg n
    have only : Only H := fun b => by
      by_cases z : b = a
      · subst z
        exact .inr ⟨_, _, Ha⟩
      · exact .inl (Hn b z)
    refine end_from inK top bl blt lim gen scr room F bnd H only ?_ ?_ (fun _ => hk) (want H only (.inl (.inr ⟨_, Ha⟩)))
    · intro b u z
      by_cases n : b = a
      · subst n
        rw [Ha] at z
        have eu := Option.some.inj z
        subst eu
        exact ⟨scr, by rw [List.length_map]; exact few, us, _, vals, scr⟩
      · rw [Hn b n] at z
        cases z
    · intro b n
      by_cases z : b = a
      · exact z
      · exact (n (Hn b z)).elim
end
/-- a law over data: its def comes to True for every script of at most n ints -/
theorem walkG {l : PySem.W.OpenLaw} {n k : Nat} {q : Program} {loose : List Str} {XP : (Str → Option Value) → Heap → Prop} {YP : World → Heap → Prop} {d : DefRec} {K : Params → PySem.W.Frag} {x : Str} {ca : Params → Str → Addr} {φ : Ph}
    (hn : l.most = some n) (hn2 : n ≤ sizeLine) (hdf : d.params.defaults = []) (room : Room k callerA) (inK : ∀ (w : World) (h : Heap), YP w h → (K w.params).In h)
    (F : ∀ (w : World) (mg : Str → Option Value) (fa : Addr) (h : Heap), (K w.params).In h → h.Ns mainGlobals mg → mg d.name = some (.ref fa) →
      ∃ fd : FuncData, (∀ (s : Shared) (u : Value), BindsTo s fd ⟨[u], []⟩ [(x, u)]) ∧ ∀ base : Heap, (K w.params).In base → base.Ns mainGlobals mg → FnG l.prog w (K w.params) mg base CX0 k fa fd [x] (spP (ca w.params) (K w.params) 1 φ))
    (hφ : ∀ ns : List Int, ns.length ≤ n → ∀ (p : Da → Prop) (kx : Str → List Str → List Da → Prop), p (.bl true) → φ [.scr ns] p kx) :
    PySem.W.WalkO q loose XP YP l.row.toRowW d [] (fun f vs => PySem.call f vs) := by
  refine Att.attach_call hn hdf ?_
  intro w s0 s1 mg mb fa o pm cd doc a vs ns G Y ho hd hcd hmg hobj hints hlen hg
  have KX := inK w _ Y
  obtain ⟨fd, hb, hF⟩ := F w mg fa _ KX G.T.g hmg
  refine end_of KX G.T.g G.T.b G.T.builtins G.T.nolimit hg hobj hints (Nat.le_trans hlen hn2) room hF hb fun H only sq => ?_
  refine ⟨H, fun _ => none, [.scr ns], rfl, ⟨fun _ _ e => e, (fun _ _ e => nomatch e), fun _ _ _ => rfl⟩, .cons (.scr sq) .nil, hφ ns hlen _ _ fun v G' H' _ _ o => Dn.bl_inv o⟩
end Al
open PySem PySem.Spec PyProof.Rows L2 Al
namespace Al
section
theorem ax_to {X : Cx} {C : Ct} {env : En} {cs : Cells} {k : KE} {e : Expr} (k' : KE) (h : AX X C e env cs k') (i : ∀ a c, k' a c → k a c) : AX X C e env cs k :=
  PE.imp h fun σ H Q ⟨ps, G, R, r, px, q⟩ => ⟨ps, G, R, r, px, fun a c w G1 R1 H1 hk g1 r1 o1 => q a c w G1 R1 H1 (i a c hk) g1 r1 o1⟩
theorem at_to {X : Cx} {C : Ct} {env : En} {cs : Cells} {k : KT} {e : Expr} (k' : KT) (h : AT X C e env cs k') (i : ∀ a c, k' a c → k a c) : AT X C e env cs k :=
  PT.imp h fun σ H Q ⟨ps, G, R, r, px, q⟩ => ⟨ps, G, R, r, px, fun a c G1 R1 H1 hk g1 r1 => q a c G1 R1 H1 (i a c hk) g1 r1⟩
theorem i1 {i : Int} {cs : Cells} {k : KE} {g : Int → Int} (h : k (.im (.int (g i))) cs) : sI1 g [.im (.int i)] cs k := h
theorem i2 {i j : Int} {cs : Cells} {k : KE} {g : Int → Int → Int} (h : k (.im (.int (g i j))) cs) : sI2 g [.im (.int i), .im (.int j)] cs k := h
theorem iAdd {i j : Int} {cs : Cells} {k : KE} (h : k (.im (.int (i + j))) cs) : sAdd (.im (.int i)) (.im (.int j)) cs k := h
theorem lAdd {i j : List Da} {cs : Cells} {k : KE} (z : i.length + j.length ≤ 100000) (h : k (.im (.lst (i ++ j))) cs) : sAdd (.im (.lst i)) (.im (.lst j)) cs k := ⟨z, h⟩
theorem oAdd {n : Nat} {i j : List Da} {cs : Cells} {k : KE} (hc : cs[n]? = some (some i)) (z : i.length + j.length ≤ 100000) (h : k (.im (.lst (i ++ j))) cs) : sAdd (.ow n) (.im (.lst j)) cs k := ⟨i, hc, z, h⟩
theorem iMul {i j : Int} {cs : Cells} {k : KE} (c : CMul i j) (h : k (.im (.int (i * j))) cs) : sMul (.im (.int i)) (.im (.int j)) cs k := ⟨c, h⟩
theorem iOp {i j : Int} {cs : Cells} {k : KE} {Cd : Int → Int → Prop} {g : Int → Int → Da} (c : Cd i j) (h : k (.im (g i j)) cs) : sInt Cd g (.im (.int i)) (.im (.int j)) cs k := ⟨c, h⟩
theorem iCmp {i j : Int} {cs : Cells} {k : KE} {g : Int → Int → Bool} {gs : Str → Str → Bool} (h : k (.im (.bl (g i j))) cs) : sCmp g gs (.im (.int i)) (.im (.int j)) cs k := h
theorem oIx {cs : Cells} {k : KE} {j : Nat} {i : Int} {ds : List Da} {d : Da} (hc : cs[j]? = some (some ds)) (ha : atI ds i = some d) (h : k (.im d) cs) : sIx (.ow j) (.im (.int i)) cs k := ⟨ds, d, hc, ha, h⟩
theorem lIx {cs : Cells} {k : KE} {i : Int} {ds : List Da} {d : Da} (ha : atI ds i = some d) (h : k (.im d) cs) : sIx (.im (.lst ds)) (.im (.int i)) cs k := ⟨d, ha, h⟩
theorem sIxS {cs : Cells} {k : KE} {i : Int} {ds : List Int} {d : Int} (ha : atI ds i = some d) (h : k (.im (.int d)) cs) : sIx (.im (.scr ds)) (.im (.int i)) cs k := ⟨d, ha, h⟩
theorem lenS {cs : Cells} {k : KE} {l : List Int} (h : k (.im (.int l.length)) cs) : sLen [.im (.scr l)] cs k := h
theorem lenL {cs : Cells} {k : KE} {l : List Da} (h : k (.im (.int l.length)) cs) : sLen [.im (.lst l)] cs k := h
theorem cR {i j : Int} (h : -(2 ^ 64) < j ∧ j < 2 ^ 64) : CMul i j := .inr h
theorem cL {i j : Int} (h : -(2 ^ 64) < i ∧ i < 2 ^ 64) : CMul i j := .inl h
theorem eqInt {i j : Int} {g : Bool → Bool} {cs : Cells} {k : KE} (h : k (.im (.bl (g (i == j)))) cs) : sEqv g (.im (.int i)) (.im (.int j)) cs k := .inr ⟨.int i, .int j, rfl, rfl, rfl, rfl, rfl, rfl, h⟩
theorem eqStr {i j : Str} {g : Bool → Bool} {cs : Cells} {k : KE} (h : k (.im (.bl (g (decide (i = j))))) cs) : sEqv g (.im (.str i)) (.im (.str j)) cs k := .inl ⟨i, j, rfl, rfl, h⟩
theorem tst {z : Bool} {p : Bool → Prop} (h : p z) : ∃ y, (AV.im (.bl z)) = .im (.bl y) ∧ p y := ⟨z, rfl, h⟩
theorem ngS {i : Int} {p : Int → Prop} (h : p i) : ∃ j, (AV.im (.int i)) = .im (.int j) ∧ p j := ⟨i, rfl, h⟩
theorem imN {k : List Da → Prop} (h : k []) : imL [] k := h
theorem imC {d : Da} {l : List AV} {k : List Da → Prop} (h : imL l fun ds => k (d :: ds)) : imL (.im d :: l) k := h
end
end Al
namespace K01
def topS (i : Nat) : Stmt := PySem.Challenge.pw_closedroads_k01_limits_and_errors.main.body.getD i (.Pass ⟨0, 0, 0, 0⟩)
/-- names of built-in things -/
structure Tb (mg : Str → Option Value) : Prop where
  int : mg "int" = none
  abs : mg "abs" = none
  len : mg "len" = none
  isi : mg "isinstance" = none
  rpr : mg "repr" = none
  rng : mg "range" = none
  max : mg "max" = none
  min : mg "min" = none
  all : mg "all" = none
  ve : mg "ValueError" = none
  le : mg "LookupError" = none
  ae : mg "ArithmeticError" = none
end K01

local macro_rules | `(tactic| walk_at "av") => `(tactic| first
  | refine ax_var 0 rfl (by first | exact .inl rfl | exact .inr (.inl rfl) | exact .inr (.inr rfl)) rfl ?_
  | refine ax_var 1 rfl (by first | exact .inl rfl | exact .inr (.inl rfl) | exact .inr (.inr rfl)) rfl ?_
  | refine ax_var 2 rfl (by first | exact .inl rfl | exact .inr (.inl rfl) | exact .inr (.inr rfl)) rfl ?_
  | refine ax_var 3 rfl (by first | exact .inl rfl | exact .inr (.inl rfl) | exact .inr (.inr rfl)) rfl ?_
  | refine ax_var 4 rfl (by first | exact .inl rfl | exact .inr (.inl rfl) | exact .inr (.inr rfl)) rfl ?_
  | refine ax_var 5 rfl (by first | exact .inl rfl | exact .inr (.inl rfl) | exact .inr (.inr rfl)) rfl ?_
  | refine ax_var 6 rfl (by first | exact .inl rfl | exact .inr (.inl rfl) | exact .inr (.inr rfl)) rfl ?_
  | refine ax_var 7 rfl (by first | exact .inl rfl | exact .inr (.inl rfl) | exact .inr (.inr rfl)) rfl ?_)
local macro_rules | `(tactic| walk_at "a1") => `(tactic| first
  | with_reducible refine ax_int ?_ | with_reducible refine ax_str ?_ | with_reducible refine ax_bl ?_ | with_reducible refine ax_non ?_
  | walk_at "av"
  | with_reducible refine aa_nil ?_ | refine aa_cons ?_
  | refine ax_add ?_ | refine ax_minus ?_ | refine ax_mul ?_ | refine ax_mod ?_ | refine ax_fdiv ?_ | refine ax_pow ?_ | refine ax_neg ?_
  | refine ax_ix ?_ | refine ax_take ?_
  | refine ax_bint rfl (by assumption) ?_ | refine ax_abs rfl (by assumption) ?_ | refine ax_len rfl (by assumption) ?_
  | refine ax_if ?_ | refine at_lt ?_ | refine at_le ?_ | refine at_gt ?_ | refine at_ge ?_
  | refine aw_at ?_ | refine aw_or ?_ | refine aw_or1 ?_ | refine aw_and ?_ | refine aw_and1 ?_
  | refine ax_tup ?_ | refine al_lst ?_ | refine ax_lst ?_ | refine ax_dic0 ?_ | refine ax_dic1 ?_)
local macro_rules | `(tactic| walk_at "a2") => `(tactic| first
  | with_reducible refine i1 ?_ | with_reducible refine i2 ?_ | with_reducible refine iAdd ?_
  | with_reducible refine iMul (cR (by decide)) ?_ | with_reducible refine iMul (cL (by decide)) ?_
  | with_reducible refine iOp trivial ?_ | with_reducible refine iCmp ?_
  | with_reducible refine oIx rfl rfl ?_ | with_reducible refine lIx rfl ?_
  | with_reducible refine lenS ?_ | with_reducible refine lenL ?_ | with_reducible refine eqInt ?_ | with_reducible refine eqStr ?_
  | with_reducible refine tst ?_ | with_reducible refine imN ?_ | with_reducible refine imC ?_
  | with_reducible refine ngS ?_ | refine And.intro (Nat.le_of_ble_eq_true rfl) ?_
  | with_reducible refine lAdd (Nat.le_of_ble_eq_true rfl) ?_ | refine iOp (show CPow _ _ from ⟨by decide, by decide, by decide⟩) ?_)
local macro_rules | `(tactic| walk_at "go") => `(tactic| repeat (first | walk_at "a2" | walk_at "a1"))
namespace K01
section
variable {ca : Str → Addr} {P : Program} {w : World} {K : PySem.W.Frag} {mg : Str → Option Value} {base : Heap}
abbrev sDip : Stmt := topS 28
theorem scDip : FnScope ["jar", "wide", "digit", "seed"] ["jar", "wide"] (defScope sDip) := ⟨rfl, rfl, rfl, by decide +kernel, rfl, by decide +kernel, by decide +kernel⟩
/-- a number from 0 to w - 1 -/
def fDip : PhJ := fun js ds k kx => ∃ a b c w, js = [.int a, .int b, .int c] ∧ ds = [.int w] ∧ 0 < w ∧ w < 1073741824 ∧ ∀ d a' b' c' : Int, 0 ≤ d → d < w → k (.int d) [.int a', .int b', .int c']
theorem m_dip : ∀ js ds k1 k2 x1 x2, fDip js ds k1 x1 → (∀ d js', k1 d js' → k2 d js') → (∀ c ks es js', x1 c ks es js' → x2 c ks es js') → fDip js ds k2 x2 := by
  rintro js ds k1 k2 x1 x2 ⟨a, b, c, w, h1, h2, h3, h4, h5⟩ h _
  exact ⟨a, b, c, w, h1, h2, h3, h4, fun d a' b' c' h6 h7 => h _ _ (h5 d a' b' c' h6 h7)⟩
theorem ok_dip {f : Addr} {fd : FuncData} (F : Fun K "_law_dip" "_law_dip" sDip f fd) (T : Tb mg) : FnG P w K mg base CX0 1 f fd ["jar", "wide"] (spJ ca K 1 fDip) := by
  have mi := T.int
  refine fnJ F scDip rfl (fun cdv A outer s H E js ds kd gd hr hl hφ => ?_) ?_
  · obtain ⟨a, b, c, w, rfl, rfl, h0, h1, hk⟩ := hφ
    refine ab_cons (as_item ?_)
    walk_at "go"
    refine ⟨_, 0, 2, _, 2, rfl, rfl, rfl, rfl, rfl, ?_⟩
    refine ab_cons (as_if ?_)
    walk_at "go"
    refine ⟨fun _ => ?_, fun _ => ?_⟩
    · refine ab_cons (as_set 2 scDip.nd rfl (.inl rfl) (Nat.le_of_ble_eq_true rfl) ?_)
      walk_at "go"
      refine iOp h0 ?_
      refine ab_cons (as_item ?_)
      walk_at "go"
      refine iOp ⟨h0, h1⟩ ?_
      walk_at "go"
      refine ⟨_, 0, 0, _, 0, rfl, rfl, rfl, rfl, rfl, ?_⟩
      refine ab_one (as_ret ?_)
      walk_at "go"
      exact ⟨_, _, _, rfl, rfl, hk _ _ _ _ (Int.emod_nonneg _ (by omega)) (Int.emod_lt_of_pos _ h0)⟩
    · refine ab_nil ?_
      refine ab_cons (as_set 3 scDip.nd rfl (.inl rfl) (Nat.le_of_ble_eq_true rfl) ?_)
      walk_at "go"
      refine ab_cons (as_item ?_)
      walk_at "go"
      refine iOp (by decide) ?_
      walk_at "go"
      refine ⟨_, 0, 1, _, 1, rfl, rfl, rfl, rfl, rfl, ?_⟩
      refine ab_one (as_ret ?_)
      walk_at "go"
      refine iOp ⟨by decide, by decide⟩ ?_
      walk_at "go"
      refine iOp h0 ?_
      exact ⟨_, _, _, rfl, rfl, hk _ _ _ _ (Int.emod_nonneg _ (by omega)) (Int.emod_lt_of_pos _ h0)⟩
  · exact m_dip
end
end K01

namespace K01
abbrev sJar : Stmt := topS 27
theorem scJar : FnScope ["script", "k", "churned", "cell", "own", "digits"] ["script", "k"] (defScope sJar) := ⟨rfl, rfl, rfl, by decide +kernel, rfl, by decide +kernel, by decide +kernel⟩
/-- three numbers -/
def fJar : PhF := fun ds kl => ∃ ns k, ds = [.scr ns, .int (k : Nat)] ∧ k < 64 ∧ ∀ a b c : Int, kl [.int a, .int b, .int c]
theorem m_jar : ∀ ds k1 k2, fJar ds k1 → (∀ d, k1 d → k2 d) → fJar ds k2 := by
  rintro ds k1 k2 ⟨ns, k, h1, h2, h3⟩ h
  exact ⟨ns, k, h1, h2, fun a b c => h _ (h3 a b c)⟩
section
variable {ca : Str → Addr} {P : Program} {w : World} {K : PySem.W.Frag} {mg : Str → Option Value} {base : Heap}
theorem ok_jar {f : Addr} {fd : FuncData} (F : Fun K "_law_jar" "_law_jar" sJar f fd) (T : Tb mg) : FnG P w K mg base CX0 1 f fd ["script", "k"] (spF ca K 2 fJar) := by
  have m1 := T.int
  have m2 := T.abs
  have m3 := T.len
  refine fnF F scJar rfl (fun cdv A outer s H E ds kd gd hr hl hφ => ?_) ?_
  · obtain ⟨ns, k, rfl, hk, hkl⟩ := hφ
    have ck : -(2 ^ 64) < (k : Int) + 2 ∧ (k : Int) + 2 < 2 ^ 64 := by omega
    refine ab_cons (as_set 2 scJar.nd rfl (.inl rfl) (Nat.le_of_ble_eq_true rfl) ?_)
    walk_at "go"
    refine iMul (cR ck) ?_
    walk_at "go"
    refine ab_cons (as_list rfl PassesOwn.never (pg_name (i := 3) scJar.nd rfl (Or.inl rfl)) tg_name ?_)
    walk_at "go"
    refine ⟨4, rfl, .inl ⟨ns, rfl, ?_⟩⟩
    refine ⟨_, .inl rfl, fun i e c => c = [] ∧ ∃ z y, e = [some (.im (.scr ns)), some (.im (.int k)), some (.im (.int z)), y, none, none], ⟨rfl, _, _, rfl⟩, ?_, ?_⟩
    · rintro i d e c hd ⟨rfl, z, y, rfl⟩
      rw [List.getElem?_map] at hd
      obtain ⟨n, hn, ed⟩ := Option.map_eq_some_iff.mp hd
      subst ed
      refine ⟨Nat.le_of_ble_eq_true rfl, ?_⟩
      refine ab_one (as_set 2 scJar.nd rfl (.inl rfl) (Nat.le_of_ble_eq_true rfl) ?_)
      walk_at "go"
      refine iOp (by decide) ?_
      exact ⟨rfl, _, _, rfl⟩
    · rintro e c ⟨rfl, z, y, rfl⟩
      refine ab_cons (as_set 4 scJar.nd rfl (.inl rfl) (Nat.le_of_ble_eq_true rfl) ?_)
      refine ax_to (fun a c => c = [] ∧ ∃ own : Int, a = .im (.int own)) ?_ ?_
      · walk_at "go"
        refine ⟨fun hz => ?_, fun _ => ?_⟩
        · walk_at "go"
          have lt : k < ns.length := by
            have := of_decide_eq_true hz
            omega
          refine sIxS (atI_of rfl (List.getElem?_eq_getElem lt)) ?_
          exact ⟨rfl, _, rfl⟩
        · walk_at "go"
          exact ⟨rfl, _, rfl⟩
      · rintro _ _ ⟨rfl, own, rfl⟩
        refine ab_cons (as_set 5 scJar.nd rfl (.inl rfl) (Nat.le_of_ble_eq_true rfl) ?_)
        refine ax_to (fun a c => c = [] ∧ ∃ d : Int, a = .im (.int d)) ?_ ?_
        · refine ax_if ?_
          refine at_to (fun _ c => c = []) ?_ ?_
          · walk_at "go"
            refine ⟨fun _ => rfl, fun _ => ?_⟩
            walk_at "go"
            rfl
          · rintro b _ rfl
            refine ⟨fun _ => ?_, fun _ => ?_⟩
            · walk_at "go"
              exact ⟨rfl, _, rfl⟩
            · walk_at "go"
              exact ⟨rfl, _, rfl⟩
        · rintro _ _ ⟨rfl, d, rfl⟩
          refine ab_one (as_retL ?_)
          walk_at "go"
          refine iOp (by decide) ?_
          walk_at "go"
          exact ⟨_, _, rfl, rfl, hkl _ _ _⟩
  · exact m_jar
end
end K01

namespace K01
abbrev sPick : Stmt := topS 29
theorem scPick : FnScope ["jar", "menu", "at"] ["jar", "menu"] (defScope sPick) := ⟨rfl, rfl, rfl, by decide +kernel, rfl, by decide +kernel, by decide +kernel⟩
/-- one of the things -/
def fPick : PhJ := fun js ds k kx => ∃ (a b c : Int) (l : List Da), js = [.int a, .int b, .int c] ∧ ds = [.lst l] ∧ 0 < l.length ∧ l.length < 1000 ∧ ∀ d ∈ l, ∀ a' b' c' : Int, k d [.int a', .int b', .int c']
theorem m_pick : ∀ js ds k1 k2 x1 x2, fPick js ds k1 x1 → (∀ d js', k1 d js' → k2 d js') → (∀ c ks es js', x1 c ks es js' → x2 c ks es js') → fPick js ds k2 x2 := by
  rintro js ds k1 k2 x1 x2 ⟨a, b, c, l, h1, h2, h3, h4, h5⟩ h _
  exact ⟨a, b, c, l, h1, h2, h3, h4, fun d hd a' b' c' => h _ _ (h5 d hd a' b' c')⟩
section
variable {ca : Str → Addr} {P : Program} {w : World} {K : PySem.W.Frag} {mg : Str → Option Value} {base : Heap}
theorem ok_pick {f f1 : Addr} {fd fd1 : FuncData} (F : Fun K "_law_pick" "_law_pick" sPick f fd) (T : Tb mg) (F1 : Fun K "_law_dip" "_law_dip" sDip f1 fd1) (g1 : mg "_law_dip" = some (.ref f1)) (b1 : Binds K fd1 ["jar", "wide"] []) :
    FnG P w K mg base CX0 2 f fd ["jar", "menu"] (spJ ca K 1 fPick) := by
  have m3 := T.len
  refine fnJ F scPick rfl (fun cdv A outer s H E js ds kd gd hr hl hφ => ?_) m_pick
  obtain ⟨a, b, c, l, rfl, rfl, h0, h1, hk⟩ := hφ
  refine ab_cons (as_set 2 scPick.nd rfl (.inl rfl) (Nat.le_of_ble_eq_true rfl) ?_)
  refine ax_callJ (ok_dip F1 T) gd hr rfl g1 F1.kp b1 ?_ (mono := m_dip)
  walk_at "go"
  refine ⟨0, _, rfl, ?_⟩
  walk_at "go"
  refine ⟨rfl, _, rfl, a, b, c, l.length, rfl, rfl, by omega, by omega, fun d a' b' c' d0 d1 => ?_⟩
  refine ab_one (as_ret ?_)
  walk_at "go"
  obtain ⟨i, rfl⟩ := Int.eq_ofNat_of_zero_le d0
  have lt : i < l.length := by omega
  refine lIx (atI_of rfl (List.getElem?_eq_getElem lt)) ?_
  exact ⟨_, _, _, rfl, rfl, hk _ (List.getElem_mem lt) _ _ _⟩
end
end K01

namespace K01
def srt17 : List Str := ["InvalidText", "InvalidPlace", "InvalidCost", "InvalidWay", "InvalidAmount", "InvalidNumber", "InvalidWish", "InvalidCommand", "NotAWeb", "InvalidRoads", "InvalidLoads", "InvalidIndexes", "UnknownRoad", "TooMany", "Broken", "NoWay", "NothingToUndo"]
def all20 : List Str := srt17 ++ (["WrongValue", "WrongName", "NotPossible"] : List Str)
/-- under which base class -/
def undr (c : Str) : Nat := if c == "WrongName" || c == "UnknownRoad" then 1 else if c == "NotPossible" || c == "TooMany" || c == "Broken" || c == "NoWay" || c == "NothingToUndo" then 2 else 0
def bsN : Nat → Str
  | 0 => "WrongValue"
  | 1 => "WrongName"
  | _ => "NotPossible"
def lgN : Nat → String
  | 0 => "ValueError"
  | 1 => "LookupError"
  | _ => "ArithmeticError"
def sb : Str → Da → Option Bool
  | c, .cl x => if all20.contains c && all20.contains x then some (x == c || x == bsN (undr c)) else none
  | c, .ty n => if all20.contains c && (n == "ValueError" || n == "LookupError" || n == "ArithmeticError") then some (n == lgN (undr c)) else none
  | _, _ => none
def attN (c : Str) : Str := if c == "InvalidRoads" || c == "InvalidLoads" || c == "InvalidIndexes" || c == "Broken" then "index" else "given"
/-- what is known of the classes of errors -/
structure Tk (K : PySem.W.Frag) (mg : Str → Option Value) (ca : Str → Addr) : Prop where
  xk : XKl K ca sb
  xc : ∀ c ∈ all20, XC K (ca c)
  xi : ∀ c ∈ srt17.take 15, ∃ fI, XI K (ca c) fI (attN c)
  x0 : ∀ c ∈ ("NoWay" : Str) :: "NothingToUndo" :: all20.drop 17, X0 K (ca c)
  g : ∀ c ∈ all20, mg c = some (.ref (ca c))
theorem isO {X : Cx} {C : Ct} {env : En} {cs : Cells} {k : KE} {p p1 p2 pos : Pos} {x c : Str} {ks : List Str} {l : List Da} {z : Bool} (T : Tk X.K X.mg C.ca) (B : Tb X.mg) (hx : x ∈ all20) (hc : c ∈ all20) (hz : sb c (.cl x) = some z) (gi : Gl X "isinstance") (gx : Gl X x) (hd : (x == ("__debug__" : Str)) = false)
    (hN : X.N[0]? = some ("e" : Str)) (hv : Vis X.env.scope "e") (he : env[0]? = some (some (.im (.exc c ks l)))) (h : k (.im (.bl z)) cs) : AX X C (.Call (.Name "isinstance" p) [.Name "e" p1, .Name x p2] [] pos) env cs k := by
  refine ax_isx T.xk gi B.isi ?_
  refine aa_cons (ax_var 0 hN hv he ?_)
  refine aa_cons (ax_gcl (c := x) gx (T.g x hx) ?_ hd)
  refine aa_nil ?_
  exact ⟨c, ks, l, .cl x, z, rfl, hz, T.xc c hc, .inr ⟨x, rfl⟩, h⟩
theorem isT {X : Cx} {C : Ct} {env : En} {cs : Cells} {k : KE} {p p1 p2 pos : Pos} {x c : Str} {n : String} {ks : List Str} {l : List Da} {z : Bool} (T : Tk X.K X.mg C.ca) (B : Tb X.mg) (hc : c ∈ all20) (hz : sb c (.ty n) = some z) (gi : Gl X "isinstance") (gx : Gl X x) (hm : X.mg x = none) (hb : bootBuiltins x = some (.type n)) (hn : x ≠ "__name__") (hd : (x == ("__debug__" : Str)) = false)
    (hN : X.N[0]? = some ("e" : Str)) (hv : Vis X.env.scope "e") (he : env[0]? = some (some (.im (.exc c ks l)))) (h : k (.im (.bl z)) cs) : AX X C (.Call (.Name "isinstance" p) [.Name "e" p1, .Name x p2] [] pos) env cs k := by
  refine ax_isx T.xk gi B.isi ?_
  refine aa_cons (ax_var 0 hN hv he ?_)
  refine aa_cons (ax_gty (n := n) gx hm hb ?_ hn hd)
  refine aa_nil ?_
  exact ⟨c, ks, l, .ty n, z, rfl, hz, T.xc c hc, .inl ⟨n, rfl⟩, h⟩
abbrev sBases : Stmt := topS 30
theorem scBases : FnScope ["e", "found"] ["e"] (defScope sBases) := ⟨rfl, rfl, rfl, by decide +kernel, rfl, by decide +kernel, by decide +kernel⟩
def basesD (c : Str) : List Da := [.bl (undr c == 0), .bl (undr c == 1), .bl (undr c == 2)]
def fBases : Ph := fun ds k kx => ∃ c ks l, ds = [.exc c ks l] ∧ c ∈ all20 ∧ k (.lst (basesD c))
theorem m_bases : ∀ ds k1 k2 x1 x2, fBases ds k1 x1 → (∀ d, k1 d → k2 d) → (∀ c ks es, x1 c ks es → x2 c ks es) → fBases ds k2 x2 := by
  rintro ds k1 k2 x1 x2 ⟨c, ks, l, h1, h2, h3⟩ h _
  exact ⟨c, ks, l, h1, h2, h _ h3⟩
theorem sb_bs : ∀ c ∈ all20, (sb c (.cl "WrongValue") = some (undr c == 0) ∧ sb c (.cl "WrongName") = some (undr c == 1) ∧ sb c (.cl "NotPossible") = some (undr c == 2)) ∧ sb c (.ty "ValueError") = some (undr c == 0) ∧ sb c (.ty "LookupError") = some (undr c == 1) ∧ sb c (.ty "ArithmeticError") = some (undr c == 2) := by decide +kernel
section
variable {ca : Str → Addr} {P : Program} {w : World} {K : PySem.W.Frag} {mg : Str → Option Value} {base : Heap}
theorem ok_bases {f : Addr} {fd : FuncData} (F : Fun K "_law_bases" "_law_bases" sBases f fd) (B : Tb mg) (T : Tk K mg ca) : FnG P w K mg base CX0 1 f fd ["e"] (spP ca K 1 fBases) := by
  refine fnP F scBases rfl (fun cdv A outer s H E ds kd gd hr hl hφ => ?_) m_bases
  obtain ⟨c, ks, l, rfl, hc, hk⟩ := hφ
  obtain ⟨⟨s1, s2, s3⟩, s4, s5, s6⟩ := sb_bs c hc
  refine ab_cons (as_cell 1 scBases.nd rfl (.inl rfl) (Nat.le_of_ble_eq_true rfl) ?_)
  refine al_lst (aa_cons ?_)
  refine ax_to (fun a c1 => c1 = [] ∧ a = .im (.bl (undr c == 0))) ?_ ?_
  · refine ax_and (isO T B (by decide) hc s1 rfl rfl (by decide) rfl (.inl rfl) rfl ⟨_, rfl, fun hz => ?_, fun hz => ?_⟩)
    · refine ax_one (isT T B hc s4 rfl rfl B.ve (by decide +kernel) (by decide) (by decide) rfl (.inl rfl) rfl ?_)
      exact ⟨rfl, rfl⟩
    · rw [hz]
      exact ⟨rfl, rfl⟩
  rintro _ _ ⟨rfl, rfl⟩
  walk_at "go"
  refine ab_cons (as_expr ?_)
  refine ax_append ?_
  walk_at "go"
  refine ⟨0, _, rfl, rfl, ?_⟩
  refine ax_to (fun a c1 => c1 = [some [.bl (undr c == 0)]] ∧ a = .im (.bl (undr c == 1))) ?_ ?_
  · refine ax_and (isO T B (by decide) hc s2 rfl rfl (by decide) rfl (.inl rfl) rfl ⟨_, rfl, fun hz => ?_, fun hz => ?_⟩)
    · refine ax_one (isT T B hc s5 rfl rfl B.le (by decide +kernel) (by decide) (by decide) rfl (.inl rfl) rfl ?_)
      exact ⟨rfl, rfl⟩
    · rw [hz]
      exact ⟨rfl, rfl⟩
  rintro _ _ ⟨rfl, rfl⟩
  refine ⟨_, _, rfl, rfl, Nat.le_of_ble_eq_true rfl, ?_⟩
  refine ab_one (as_ret ?_)
  walk_at "go"
  refine ax_to (fun a c1 => c1 = [some [.bl (undr c == 0), .bl (undr c == 1)]] ∧ a = .im (.bl (undr c == 2))) ?_ ?_
  · refine ax_and (isO T B (by decide) hc s3 rfl rfl (by decide) rfl (.inl rfl) rfl ⟨_, rfl, fun hz => ?_, fun hz => ?_⟩)
    · refine ax_one (isT T B hc s6 rfl rfl B.ae (by decide +kernel) (by decide) (by decide) rfl (.inl rfl) rfl ?_)
      exact ⟨rfl, rfl⟩
    · rw [hz]
      exact ⟨rfl, rfl⟩
  rintro _ _ ⟨rfl, rfl⟩
  walk_at "go"
  refine oAdd rfl (Nat.le_of_ble_eq_true rfl) ?_
  exact ⟨_, rfl, hk⟩
end
end K01

namespace K01
abbrev sSorts : Stmt := topS 32
theorem scSorts : FnScope ["e", "found"] ["e"] (defScope sSorts) := ⟨rfl, rfl, rfl, by decide +kernel, rfl, by decide +kernel, by decide +kernel⟩
def sortsD (c : Str) : List Da := srt17.map fun t => .bl (t == c)
def fSorts : Ph := fun ds k kx => ∃ c ks l, ds = [.exc c ks l] ∧ c ∈ all20 ∧ k (.lst (sortsD c))
theorem m_sorts : ∀ ds k1 k2 x1 x2, fSorts ds k1 x1 → (∀ d, k1 d → k2 d) → (∀ c ks es, x1 c ks es → x2 c ks es) → fSorts ds k2 x2 := by
  rintro ds k1 k2 x1 x2 ⟨c, ks, l, h1, h2, h3⟩ h _
  exact ⟨c, ks, l, h1, h2, h _ h3⟩
theorem sb_st : ∀ c ∈ all20, ∀ t ∈ srt17, sb c (.cl t) = some (t == c) := by decide +kernel
theorem in20 : ∀ t ∈ srt17, t ∈ all20 := by decide +kernel
section
variable {ca : Str → Addr} {P : Program} {w : World} {K : PySem.W.Frag} {mg : Str → Option Value} {base : Heap}
theorem ok_sorts {f : Addr} {fd : FuncData} (F : Fun K "_law_sorts" "_law_sorts" sSorts f fd) (B : Tb mg) (T : Tk K mg ca) : FnG P w K mg base CX0 1 f fd ["e"] (spP ca K 1 fSorts) := by
  refine fnP F scSorts rfl (fun cdv A outer s H E ds kd gd hr hl hφ => ?_) m_sorts
  obtain ⟨c, ks, l, rfl, hc, hk⟩ := hφ
  refine ab_cons (as_set 1 scSorts.nd rfl (.inl rfl) (Nat.le_of_ble_eq_true rfl) ?_)
  refine ax_lst ?_
  refine aa_cons (isO T B (in20 "InvalidText" (by decide +kernel)) hc (sb_st c hc "InvalidText" (by decide +kernel)) rfl rfl (by decide) rfl (.inl rfl) rfl ?_)
  refine aa_cons (isO T B (in20 "InvalidPlace" (by decide +kernel)) hc (sb_st c hc "InvalidPlace" (by decide +kernel)) rfl rfl (by decide) rfl (.inl rfl) rfl ?_)
  refine aa_cons (isO T B (in20 "InvalidCost" (by decide +kernel)) hc (sb_st c hc "InvalidCost" (by decide +kernel)) rfl rfl (by decide) rfl (.inl rfl) rfl ?_)
  refine aa_nil ?_
  walk_at "go"
  refine ab_cons (as_set 1 scSorts.nd rfl (.inl rfl) (Nat.le_of_ble_eq_true rfl) ?_)
  refine ax_add (ax_var 1 rfl (.inl rfl) rfl ?_)
  refine ax_lst ?_
  refine aa_cons (isO T B (in20 "InvalidWay" (by decide +kernel)) hc (sb_st c hc "InvalidWay" (by decide +kernel)) rfl rfl (by decide) rfl (.inl rfl) rfl ?_)
  refine aa_cons (isO T B (in20 "InvalidAmount" (by decide +kernel)) hc (sb_st c hc "InvalidAmount" (by decide +kernel)) rfl rfl (by decide) rfl (.inl rfl) rfl ?_)
  refine aa_cons (isO T B (in20 "InvalidNumber" (by decide +kernel)) hc (sb_st c hc "InvalidNumber" (by decide +kernel)) rfl rfl (by decide) rfl (.inl rfl) rfl ?_)
  refine aa_nil ?_
  walk_at "go"
  refine ab_cons (as_set 1 scSorts.nd rfl (.inl rfl) (Nat.le_of_ble_eq_true rfl) ?_)
  refine ax_add (ax_var 1 rfl (.inl rfl) rfl ?_)
  refine ax_lst ?_
  refine aa_cons (isO T B (in20 "InvalidWish" (by decide +kernel)) hc (sb_st c hc "InvalidWish" (by decide +kernel)) rfl rfl (by decide) rfl (.inl rfl) rfl ?_)
  refine aa_cons (isO T B (in20 "InvalidCommand" (by decide +kernel)) hc (sb_st c hc "InvalidCommand" (by decide +kernel)) rfl rfl (by decide) rfl (.inl rfl) rfl ?_)
  refine aa_cons (isO T B (in20 "NotAWeb" (by decide +kernel)) hc (sb_st c hc "NotAWeb" (by decide +kernel)) rfl rfl (by decide) rfl (.inl rfl) rfl ?_)
  refine aa_nil ?_
  walk_at "go"
  refine ab_cons (as_set 1 scSorts.nd rfl (.inl rfl) (Nat.le_of_ble_eq_true rfl) ?_)
  refine ax_add (ax_var 1 rfl (.inl rfl) rfl ?_)
  refine ax_lst ?_
  refine aa_cons (isO T B (in20 "InvalidRoads" (by decide +kernel)) hc (sb_st c hc "InvalidRoads" (by decide +kernel)) rfl rfl (by decide) rfl (.inl rfl) rfl ?_)
  refine aa_cons (isO T B (in20 "InvalidLoads" (by decide +kernel)) hc (sb_st c hc "InvalidLoads" (by decide +kernel)) rfl rfl (by decide) rfl (.inl rfl) rfl ?_)
  refine aa_cons (isO T B (in20 "InvalidIndexes" (by decide +kernel)) hc (sb_st c hc "InvalidIndexes" (by decide +kernel)) rfl rfl (by decide) rfl (.inl rfl) rfl ?_)
  refine aa_nil ?_
  walk_at "go"
  refine ab_cons (as_set 1 scSorts.nd rfl (.inl rfl) (Nat.le_of_ble_eq_true rfl) ?_)
  refine ax_add (ax_var 1 rfl (.inl rfl) rfl ?_)
  refine ax_lst ?_
  refine aa_cons (isO T B (in20 "UnknownRoad" (by decide +kernel)) hc (sb_st c hc "UnknownRoad" (by decide +kernel)) rfl rfl (by decide) rfl (.inl rfl) rfl ?_)
  refine aa_cons (isO T B (in20 "TooMany" (by decide +kernel)) hc (sb_st c hc "TooMany" (by decide +kernel)) rfl rfl (by decide) rfl (.inl rfl) rfl ?_)
  refine aa_cons (isO T B (in20 "Broken" (by decide +kernel)) hc (sb_st c hc "Broken" (by decide +kernel)) rfl rfl (by decide) rfl (.inl rfl) rfl ?_)
  refine aa_nil ?_
  walk_at "go"
  refine ab_cons (as_set 1 scSorts.nd rfl (.inl rfl) (Nat.le_of_ble_eq_true rfl) ?_)
  refine ax_add (ax_var 1 rfl (.inl rfl) rfl ?_)
  refine ax_lst ?_
  refine aa_cons (isO T B (in20 "NoWay" (by decide +kernel)) hc (sb_st c hc "NoWay" (by decide +kernel)) rfl rfl (by decide) rfl (.inl rfl) rfl ?_)
  refine aa_cons (isO T B (in20 "NothingToUndo" (by decide +kernel)) hc (sb_st c hc "NothingToUndo" (by decide +kernel)) rfl rfl (by decide) rfl (.inl rfl) rfl ?_)
  refine aa_nil ?_
  walk_at "go"
  refine ab_one (as_ret ?_)
  walk_at "go"
  exact ⟨_, rfl, hk⟩
end
end K01

namespace K01
abbrev sOdd : Stmt := topS 31
theorem scOdd : FnScope ["jar", "menu"] ["jar"] (defScope sOdd) := ⟨rfl, rfl, rfl, by decide +kernel, rfl, by decide +kernel, by decide +kernel⟩
def menuD : List Da := [.non, .bl true, .bl false, .int 0, .int 1, .int (-1), .int 2, .int (10 ^ (30 : Int).toNat), .str "", .str "a", .str "a b", .str "ab", .tup [], .tup [.int 0], .tup [.int 0, .int 1], .tup [.int 1, .int 2], .tup [.str "a", .str "b", .int 0, .int 1], .lst [],
  .dic [] [], .dic [.inr "a"] [.int 1], .tup [.non, .int 0], .str "a b\na b 0 1", .tup [.tup [.str "a", .str "b", .int 0, .int 1]], .lst [.int 0], .lst [.lst []], .tup [.tup []], .str "A"]
/-- a value of any kind -/
def fOdd : PhJ := fun js ds k kx => ∃ a b c : Int, js = [.int a, .int b, .int c] ∧ ds = [] ∧ ∀ d ∈ menuD, ∀ a' b' c' : Int, k d [.int a', .int b', .int c']
theorem m_odd : ∀ js ds k1 k2 x1 x2, fOdd js ds k1 x1 → (∀ d js', k1 d js' → k2 d js') → (∀ c ks es js', x1 c ks es js' → x2 c ks es js') → fOdd js ds k2 x2 := by
  rintro js ds k1 k2 x1 x2 ⟨a, b, c, h1, h2, h5⟩ h _
  exact ⟨a, b, c, h1, h2, fun d hd a' b' c' => h _ _ (h5 d hd a' b' c')⟩
section
variable {ca : Str → Addr} {P : Program} {w : World} {K : PySem.W.Frag} {mg : Str → Option Value} {base : Heap}
theorem ok_odd {f f1 f2 : Addr} {fd fd1 fd2 : FuncData} (F : Fun K "_law_odd" "_law_odd" sOdd f fd) (T : Tb mg) (F1 : Fun K "_law_dip" "_law_dip" sDip f1 fd1) (g1 : mg "_law_dip" = some (.ref f1)) (b1 : Binds K fd1 ["jar", "wide"] [])
    (F2 : Fun K "_law_pick" "_law_pick" sPick f2 fd2) (g2 : mg "_law_pick" = some (.ref f2)) (b2 : Binds K fd2 ["jar", "menu"] []) : FnG P w K mg base CX0 3 f fd ["jar"] (spJ ca K 0 fOdd) := by
  refine fnJ F scOdd rfl (fun cdv A outer s H E js ds kd gd hr hl hφ => ?_) m_odd
  obtain ⟨a, b, c, rfl, rfl, hk⟩ := hφ
  refine ab_cons (as_set 1 scOdd.nd rfl (.inl rfl) (Nat.le_of_ble_eq_true rfl) ?_)
  walk_at "go"
  refine ab_cons (as_set 1 scOdd.nd rfl (.inl rfl) (Nat.le_of_ble_eq_true rfl) ?_)
  walk_at "go"
  refine ab_one (as_ret ?_)
  refine ax_callJ (ok_pick F2 T F1 g1 b1) gd hr rfl g2 F2.kp b2 ?_ (mono := m_pick)
  walk_at "go"
  refine ⟨0, _, rfl, ?_⟩
  walk_at "go"
  refine ⟨rfl, _, rfl, a, b, c, menuD, rfl, rfl, Nat.le_of_ble_eq_true rfl, Nat.le_of_ble_eq_true rfl, fun d hd a' b' c' => ?_⟩
  exact ⟨_, _, _, rfl, rfl, hk d hd a' b' c'⟩
end
end K01

namespace K01
def errD (c : Str) (d : Da) : Da := .exc c [attN c] [d]
def errs (d1 d2 : Da) : List Da := [errD "InvalidText" d1, errD "InvalidPlace" d2, errD "InvalidCost" d1, errD "InvalidWay" d2, errD "InvalidAmount" d1, errD "InvalidNumber" d2, errD "InvalidWish" d1, errD "InvalidCommand" d2, errD "NotAWeb" d1, errD "InvalidRoads" d2, errD "InvalidLoads" d1, errD "InvalidIndexes" d2, errD "UnknownRoad" d1, errD "TooMany" d2, errD "Broken" d1]
theorem att_or (c : Str) : attN c = "given" ∨ attN c = "index" := by
  unfold attN
  split
  · exact .inr rfl
  · exact .inl rfl
theorem in20' : ∀ t ∈ srt17.take 15, t ∈ all20 := by decide +kernel
theorem mkO {X : Cx} {C : Ct} {env : En} {cs : Cells} {k : KE} {p p1 pos : Pos} {c x : Str} {d : Da} (i : Nat) (T : Tk X.K X.mg C.ca) (hc : c ∈ srt17.take 15) (gd : X.A.guards = some []) (hr : Room 2 X.A) (gx : Gl X c) (hd : (c == ("__debug__" : Str)) = false)
    (hN : X.N[i]? = some x) (hv : Vis X.env.scope x) (he : env[i]? = some (some (.im d))) (hx : (x == ("__debug__" : Str)) = false) (hy : (x == ("__classdict__" : Str)) = false) (h : k (.im (errD c d)) cs) : AX X C (.Call (.Name c p) [.Name x p1] [] pos) env cs k := by
  obtain ⟨fI, hI⟩ := T.xi c hc
  exact ax_mk hI (att_or c) gd hr gx (T.g c (in20' c hc)) (ax_var i hN hv he ⟨d, rfl, h⟩ hx hy) hd
theorem mkW {X : Cx} {C : Ct} {env : En} {cs : Cells} {k : KE} {p p1 kp pos : Pos} {c x f : Str} {d : Da} (i : Nat) (T : Tk X.K X.mg C.ca) (hc : c ∈ srt17.take 15) (hf : attN c = f) (gd : X.A.guards = some []) (hr : Room 2 X.A) (gx : Gl X c) (hd : (c == ("__debug__" : Str)) = false)
    (hN : X.N[i]? = some x) (hv : Vis X.env.scope x) (he : env[i]? = some (some (.im d))) (hx : (x == ("__debug__" : Str)) = false) (hy : (x == ("__classdict__" : Str)) = false) (h : k (.im (errD c d)) cs) : AX X C (.Call (.Name c p) [] [⟨some f, .Name x p1, kp⟩] pos) env cs k := by
  subst hf
  obtain ⟨fI, hI⟩ := T.xi c hc
  exact ax_mkK hI (att_or c) gd hr gx (T.g c (in20' c hc)) (ax_var i hN hv he ⟨d, rfl, h⟩ hx hy) hd
/-- the errors with an attribute, made of two things by turns -/
def fMk : Ph := fun ds k kx => ∃ d1 d2, ds = [d1, d2] ∧ k (.lst (errs d1 d2))
theorem m_mk : ∀ ds k1 k2 x1 x2, fMk ds k1 x1 → (∀ d, k1 d → k2 d) → (∀ c ks es, x1 c ks es → x2 c ks es) → fMk ds k2 x2 := by
  rintro ds k1 k2 x1 x2 ⟨d1, d2, h1, h3⟩ h _
  exact ⟨d1, d2, h1, h _ h3⟩
abbrev sPlace : Stmt := topS 33
theorem scPlace : FnScope ["first", "second", "found"] ["first", "second"] (defScope sPlace) := ⟨rfl, rfl, rfl, by decide +kernel, rfl, by decide +kernel, by decide +kernel⟩
section
variable {ca : Str → Addr} {P : Program} {w : World} {K : PySem.W.Frag} {mg : Str → Option Value} {base : Heap}
theorem ok_Place {f : Addr} {fd : FuncData} (F : Fun K "_law_by_place" "_law_by_place" sPlace f fd) (T : Tk K mg ca) : FnG P w K mg base CX0 3 f fd ["first", "second"] (spP ca K 2 fMk) := by
  refine fnP F scPlace rfl (fun cdv A outer s H E ds kd gd hr hl hφ => ?_) m_mk
  obtain ⟨d1, d2, rfl, hk⟩ := hφ
  refine ab_cons (as_set 2 scPlace.nd rfl (.inl rfl) (Nat.le_of_ble_eq_true rfl) ?_)
  refine ax_lst ?_
  refine aa_cons (mkO 0 T (by decide +kernel) gd hr rfl (by decide) rfl (.inl rfl) rfl (by decide) (by decide) ?_)
  refine aa_cons (mkO 1 T (by decide +kernel) gd hr rfl (by decide) rfl (.inl rfl) rfl (by decide) (by decide) ?_)
  refine aa_cons (mkO 0 T (by decide +kernel) gd hr rfl (by decide) rfl (.inl rfl) rfl (by decide) (by decide) ?_)
  refine aa_cons (mkO 1 T (by decide +kernel) gd hr rfl (by decide) rfl (.inl rfl) rfl (by decide) (by decide) ?_)
  refine aa_nil ?_
  walk_at "go"
  refine ab_cons (as_set 2 scPlace.nd rfl (.inl rfl) (Nat.le_of_ble_eq_true rfl) ?_)
  refine ax_add (ax_var 2 rfl (.inl rfl) rfl ?_)
  refine ax_lst ?_
  refine aa_cons (mkO 0 T (by decide +kernel) gd hr rfl (by decide) rfl (.inl rfl) rfl (by decide) (by decide) ?_)
  refine aa_cons (mkO 1 T (by decide +kernel) gd hr rfl (by decide) rfl (.inl rfl) rfl (by decide) (by decide) ?_)
  refine aa_cons (mkO 0 T (by decide +kernel) gd hr rfl (by decide) rfl (.inl rfl) rfl (by decide) (by decide) ?_)
  refine aa_cons (mkO 1 T (by decide +kernel) gd hr rfl (by decide) rfl (.inl rfl) rfl (by decide) (by decide) ?_)
  refine aa_nil ?_
  walk_at "go"
  refine ab_cons (as_set 2 scPlace.nd rfl (.inl rfl) (Nat.le_of_ble_eq_true rfl) ?_)
  refine ax_add (ax_var 2 rfl (.inl rfl) rfl ?_)
  refine ax_lst ?_
  refine aa_cons (mkO 0 T (by decide +kernel) gd hr rfl (by decide) rfl (.inl rfl) rfl (by decide) (by decide) ?_)
  refine aa_cons (mkO 1 T (by decide +kernel) gd hr rfl (by decide) rfl (.inl rfl) rfl (by decide) (by decide) ?_)
  refine aa_cons (mkO 0 T (by decide +kernel) gd hr rfl (by decide) rfl (.inl rfl) rfl (by decide) (by decide) ?_)
  refine aa_cons (mkO 1 T (by decide +kernel) gd hr rfl (by decide) rfl (.inl rfl) rfl (by decide) (by decide) ?_)
  refine aa_nil ?_
  walk_at "go"
  refine ab_cons (as_set 2 scPlace.nd rfl (.inl rfl) (Nat.le_of_ble_eq_true rfl) ?_)
  refine ax_add (ax_var 2 rfl (.inl rfl) rfl ?_)
  refine ax_lst ?_
  refine aa_cons (mkO 0 T (by decide +kernel) gd hr rfl (by decide) rfl (.inl rfl) rfl (by decide) (by decide) ?_)
  refine aa_cons (mkO 1 T (by decide +kernel) gd hr rfl (by decide) rfl (.inl rfl) rfl (by decide) (by decide) ?_)
  refine aa_cons (mkO 0 T (by decide +kernel) gd hr rfl (by decide) rfl (.inl rfl) rfl (by decide) (by decide) ?_)
  refine aa_nil ?_
  walk_at "go"
  refine ab_one (as_ret ?_)
  walk_at "go"
  exact ⟨_, rfl, hk⟩
end
end K01

namespace K01
abbrev sWord : Stmt := topS 34
theorem scWord : FnScope ["first", "second", "found"] ["first", "second"] (defScope sWord) := ⟨rfl, rfl, rfl, by decide +kernel, rfl, by decide +kernel, by decide +kernel⟩
section
variable {ca : Str → Addr} {P : Program} {w : World} {K : PySem.W.Frag} {mg : Str → Option Value} {base : Heap}
theorem ok_Word {f : Addr} {fd : FuncData} (F : Fun K "_law_by_word" "_law_by_word" sWord f fd) (T : Tk K mg ca) : FnG P w K mg base CX0 3 f fd ["first", "second"] (spP ca K 2 fMk) := by
  refine fnP F scWord rfl (fun cdv A outer s H E ds kd gd hr hl hφ => ?_) m_mk
  obtain ⟨d1, d2, rfl, hk⟩ := hφ
  refine ab_cons (as_set 2 scWord.nd rfl (.inl rfl) (Nat.le_of_ble_eq_true rfl) ?_)
  refine ax_lst ?_
  refine aa_cons (mkW 0 T (by decide +kernel) (f := "given") (by decide +kernel) gd hr rfl (by decide) rfl (.inl rfl) rfl (by decide) (by decide) ?_)
  refine aa_cons (mkW 1 T (by decide +kernel) (f := "given") (by decide +kernel) gd hr rfl (by decide) rfl (.inl rfl) rfl (by decide) (by decide) ?_)
  refine aa_cons (mkW 0 T (by decide +kernel) (f := "given") (by decide +kernel) gd hr rfl (by decide) rfl (.inl rfl) rfl (by decide) (by decide) ?_)
  refine aa_nil ?_
  walk_at "go"
  refine ab_cons (as_set 2 scWord.nd rfl (.inl rfl) (Nat.le_of_ble_eq_true rfl) ?_)
  refine ax_add (ax_var 2 rfl (.inl rfl) rfl ?_)
  refine ax_lst ?_
  refine aa_cons (mkW 1 T (by decide +kernel) (f := "given") (by decide +kernel) gd hr rfl (by decide) rfl (.inl rfl) rfl (by decide) (by decide) ?_)
  refine aa_cons (mkW 0 T (by decide +kernel) (f := "given") (by decide +kernel) gd hr rfl (by decide) rfl (.inl rfl) rfl (by decide) (by decide) ?_)
  refine aa_cons (mkW 1 T (by decide +kernel) (f := "given") (by decide +kernel) gd hr rfl (by decide) rfl (.inl rfl) rfl (by decide) (by decide) ?_)
  refine aa_nil ?_
  walk_at "go"
  refine ab_cons (as_set 2 scWord.nd rfl (.inl rfl) (Nat.le_of_ble_eq_true rfl) ?_)
  refine ax_add (ax_var 2 rfl (.inl rfl) rfl ?_)
  refine ax_lst ?_
  refine aa_cons (mkW 0 T (by decide +kernel) (f := "given") (by decide +kernel) gd hr rfl (by decide) rfl (.inl rfl) rfl (by decide) (by decide) ?_)
  refine aa_cons (mkW 1 T (by decide +kernel) (f := "given") (by decide +kernel) gd hr rfl (by decide) rfl (.inl rfl) rfl (by decide) (by decide) ?_)
  refine aa_cons (mkW 0 T (by decide +kernel) (f := "given") (by decide +kernel) gd hr rfl (by decide) rfl (.inl rfl) rfl (by decide) (by decide) ?_)
  refine aa_nil ?_
  walk_at "go"
  refine ab_cons (as_set 2 scWord.nd rfl (.inl rfl) (Nat.le_of_ble_eq_true rfl) ?_)
  refine ax_add (ax_var 2 rfl (.inl rfl) rfl ?_)
  refine ax_lst ?_
  refine aa_cons (mkW 1 T (by decide +kernel) (f := "index") (by decide +kernel) gd hr rfl (by decide) rfl (.inl rfl) rfl (by decide) (by decide) ?_)
  refine aa_cons (mkW 0 T (by decide +kernel) (f := "index") (by decide +kernel) gd hr rfl (by decide) rfl (.inl rfl) rfl (by decide) (by decide) ?_)
  refine aa_cons (mkW 1 T (by decide +kernel) (f := "index") (by decide +kernel) gd hr rfl (by decide) rfl (.inl rfl) rfl (by decide) (by decide) ?_)
  refine aa_nil ?_
  walk_at "go"
  refine ab_cons (as_set 2 scWord.nd rfl (.inl rfl) (Nat.le_of_ble_eq_true rfl) ?_)
  refine ax_add (ax_var 2 rfl (.inl rfl) rfl ?_)
  refine ax_lst ?_
  refine aa_cons (mkW 0 T (by decide +kernel) (f := "given") (by decide +kernel) gd hr rfl (by decide) rfl (.inl rfl) rfl (by decide) (by decide) ?_)
  refine aa_cons (mkW 1 T (by decide +kernel) (f := "given") (by decide +kernel) gd hr rfl (by decide) rfl (.inl rfl) rfl (by decide) (by decide) ?_)
  refine aa_cons (mkW 0 T (by decide +kernel) (f := "index") (by decide +kernel) gd hr rfl (by decide) rfl (.inl rfl) rfl (by decide) (by decide) ?_)
  refine aa_nil ?_
  walk_at "go"
  refine ab_one (as_ret ?_)
  walk_at "go"
  exact ⟨_, rfl, hk⟩
end
end K01

namespace K01
abbrev sKept : Stmt := topS 35
theorem scKept : FnScope ["e", "at"] ["e", "at"] (defScope sKept) := ⟨rfl, rfl, rfl, by decide +kernel, rfl, by decide +kernel, by decide +kernel⟩
def fKept : Ph := fun ds k kx => ∃ (i : Nat) (c : Str) (d : Da), ds = [errD c d, .int (i : Int)] ∧ (srt17.take 15)[i]? = some c ∧ k d
theorem m_kept : ∀ ds k1 k2 x1 x2, fKept ds k1 x1 → (∀ d, k1 d → k2 d) → (∀ c ks es, x1 c ks es → x2 c ks es) → fKept ds k2 x2 := by
  rintro ds k1 k2 x1 x2 ⟨i, c, d, h1, h2, h3⟩ h _
  exact ⟨i, c, d, h1, h2, h _ h3⟩
def isIx (i : Int) : Bool := ([9, 10, 11, 14] : List Int).any fun j => j == i
theorem kept_at : ∀ i : Nat, i < 15 → ∀ c : Str, (srt17.take 15)[i]? = some c → attN c = if isIx (i : Int) = true then ("index" : Str) else ("given" : Str) := by
  have h : ((List.range 15).all fun i => (srt17.take 15)[i]?.all fun c => decide (attN c = if isIx (i : Int) = true then ("index" : Str) else ("given" : Str))) = true := by decide +kernel
  intro i hi c hc
  have z := List.all_eq_true.mp h i (List.mem_range.mpr hi)
  rw [hc] at z
  exact of_decide_eq_true z
section
variable {ca : Str → Addr} {P : Program} {w : World} {K : PySem.W.Frag} {mg : Str → Option Value} {base : Heap}
theorem ok_kept {f : Addr} {fd : FuncData} (F : Fun K "_law_kept" "_law_kept" sKept f fd) (T : Tk K mg ca) : FnG P w K mg base CX0 1 f fd ["e", "at"] (spP ca K 2 fKept) := by
  refine fnP F scKept rfl (fun cdv A outer s H E ds kd gd hr hl hφ => ?_) m_kept
  obtain ⟨i, c, d, rfl, hc, hk⟩ := hφ
  have lt : i < 15 := (List.getElem?_eq_some_iff.mp hc).1
  have at_ := kept_at i lt c hc
  have mem : c ∈ srt17.take 15 := List.mem_of_getElem? hc
  obtain ⟨fI, hI⟩ := T.xi c mem
  refine ab_one (as_ret ?_)
  refine ax_if ?_
  refine at_in ?_
  walk_at "go"
  refine ⟨(i : Int), [9, 10, 11, 14], rfl, .inl rfl, ?_⟩
  refine ⟨_, rfl, fun hz => ?_, fun hz => ?_⟩
  · rw [show isIx (i : Int) = true from hz, if_pos rfl] at at_
    refine ax_exa ?_
    walk_at "go"
    refine ⟨c, d, by rw [← at_]; rfl, hI.x, by rw [← at_]; exact hI.no, _, rfl, hk⟩
  · rw [show isIx (i : Int) = false from hz, if_neg Bool.false_ne_true] at at_
    refine ax_exa ?_
    walk_at "go"
    refine ⟨c, d, by rw [← at_]; rfl, hI.x, by rw [← at_]; exact hI.no, _, rfl, hk⟩
end
end K01

namespace K01
theorem bl_all : ∀ bs : List Bool, okPL (bs.map Da.bl) = true ∧ toPL (bs.map Da.bl) = bs.map PyData.bool ∧ PyData.canLayAll0 (bs.map PyData.bool) = true ∧ PyData.depthAll (bs.map PyData.bool) = 0
  | [] => ⟨rfl, rfl, rfl, rfl⟩
  | b :: bs => by
    obtain ⟨h1, h2, h3, h4⟩ := bl_all bs
    refine ⟨?_, ?_, ?_, ?_⟩
    · rw [List.map_cons, okPL, h1]
      rfl
    · rw [List.map_cons, toPL, h2]
      rfl
    · rw [List.map_cons, PyData.canLayAll0, h3]
      rfl
    · rw [List.map_cons, PyData.depthAll, h4]
      rfl
theorem bl_shaped (bs : List Bool) : okP (.lst (bs.map Da.bl)) = true ∧ SeqAt.shaped (toP (.lst (bs.map Da.bl))) = true := by
  obtain ⟨h1, h2, h3, h4⟩ := bl_all bs
  refine ⟨h1, ?_⟩
  rw [toP, h2]
  unfold SeqAt.shaped
  rw [PyData.canLay0, h3, PyData.depth, h4]
  rfl
/-- what is the same is not != -/
theorem ne_same {d : Da} {x y : AV} {cs : Cells} {k : KE} (ex : asD cs x = some d) (ey : asD cs y = some d) (ok : okP d = true ∧ SeqAt.shaped (toP d) = true) (h : k (.im (.bl false)) cs) : sEqv not x y cs k := by
  refine .inr ⟨d, d, ex, ey, ok.1, ok.1, ok.2, ok.2, ?_⟩
  rw [SeqAt.eqv_refl _ (SeqAt.canLay_of_shaped ok.2)]
  exact h
def noD : List Da := [.exc "NoWay" [] [], .exc "NothingToUndo" [] []]
theorem full_at (d1 d2 : Da) (t : Nat) (ht : t < 17) : ∃ c ks l, (errs d1 d2 ++ noD)[t]? = some (.exc c ks l) ∧ srt17[t]? = some c ∧ (t < 15 → ks = [attN c] ∧ l = [if t % 2 = 0 then d1 else d2]) := by
  iterate 15
    rcases t with _ | t
    · exact ⟨_, _, _, rfl, rfl, fun _ => ⟨rfl, rfl⟩⟩
  rcases t with _ | t
  · exact ⟨_, _, _, rfl, rfl, fun h => absurd h (by decide)⟩
  rcases t with _ | t
  · exact ⟨_, _, _, rfl, rfl, fun h => absurd h (by decide)⟩
  omega
theorem by17 {p : Nat → Str → Bool} (h : ((List.range 17).all fun t => srt17[t]?.all fun c => p t c) = true) {t : Nat} {c : Str} (hc : srt17[t]? = some c) : p t c = true := by
  have z := List.all_eq_true.mp h t (List.mem_range.mpr (List.getElem?_eq_some_iff.mp hc).1)
  rw [hc] at z
  exact z
theorem sorts_eq {t : Nat} {c : Str} (hc : srt17[t]? = some c) : (srt17.map fun x => x == c) = (List.range 17).map fun j : Nat => ((j : Int) == (t : Int)) :=
  of_decide_eq_true (by17 (p := fun t c => decide ((srt17.map fun x => x == c) = (List.range 17).map fun j : Nat => ((j : Int) == (t : Int)))) (by decide +kernel) hc)
theorem und_eq {t : Nat} {c : Str} (hc : srt17[t]? = some c) : (undr c : Int) = if (t : Int) < 12 then 0 else if (t : Int) = 12 then 1 else 2 :=
  of_decide_eq_true (by17 (p := fun t c => decide ((undr c : Int) = if (t : Int) < 12 then 0 else if (t : Int) = 12 then 1 else 2)) (by decide +kernel) hc)
theorem bases_eq (c : Str) : ∀ u, undr c = u → ([undr c == 0, undr c == 1, undr c == 2] : List Bool) = (List.range 3).map fun j : Nat => ((j : Int) == (undr c : Int)) := by
  intro u hu
  have lt : undr c = 0 ∨ undr c = 1 ∨ undr c = 2 := by
    unfold undr
    split
    · exact .inr (.inl rfl)
    · split
      · exact .inr (.inr rfl)
      · exact .inl rfl
  rcases lt with h | h | h <;> rw [h] <;> decide
/-- all that repr asks of the drawn values -/
def rOk (d : Da) : Bool := okR d && (toP d).showable && decide ((toP d).shown.length ≤ 100000) && decide ((toP d).depth ≤ 64)
theorem menu_ok : menuD.all rOk = true := by decide +kernel
theorem rpr_of {d : Da} {cs : Cells} {k : KE} (h : rOk d = true) (q : k (.im (.str (toP d).shown)) cs) : sRpr [.im d] cs k := by
  unfold rOk at h
  rw [Bool.and_eq_true, Bool.and_eq_true, Bool.and_eq_true] at h
  exact ⟨d, rfl, h.1.1.1, h.1.1.2, of_decide_eq_true h.1.2, of_decide_eq_true h.2, q⟩
end K01

namespace K01
abbrev sRight : Stmt := topS 36
theorem scRight : FnScope ["jar", "first", "second", "made", "at", "under", "due", "k"] ["jar"] (defScope sRight) := ⟨rfl, rfl, rfl, by decide +kernel, rfl, by decide +kernel, by decide +kernel⟩
def fRight : PhJ := fun js ds k kx => ∃ a b c : Int, js = [.int a, .int b, .int c] ∧ ds = [] ∧ ∀ a' b' c' : Int, k (.bl true) [.int a', .int b', .int c']
theorem m_right : ∀ js ds k1 k2 x1 x2, fRight js ds k1 x1 → (∀ d js', k1 d js' → k2 d js') → (∀ c ks es js', x1 c ks es js' → x2 c ks es js') → fRight js ds k2 x2 := by
  rintro js ds k1 k2 x1 x2 ⟨a, b, c, h1, h2, h5⟩ h _
  exact ⟨a, b, c, h1, h2, fun a' b' c' => h _ _ (h5 a' b' c')⟩
/-- a def of the module: its text, its name, how its arguments bind -/
structure Dd (K : PySem.W.Frag) (mg : Str → Option Value) (nm : Str) (st : Stmt) (ps : List Str) (f : Addr) (fd : FuncData) : Prop where
  F : Fun K nm nm st f fd
  g : mg nm = some (.ref f)
  b : Binds K fd ps []
/-- the scope of [k == v for k in ..] -/
def blkS (v : Str) : Scope := { kind := ScopeKind.function, names := [(".0", .local), ("k", .local), (v, .free)], isGenerator := false, isCoroutine := false, more := [] }
theorem blkAt : BlkOk ["jar", "first", "second", "made", "at", "under", "due", "k"] (defScope sRight) (blkS "at") [("k", 7)] := ⟨rfl, by decide +kernel, by decide +kernel, by decide +kernel, by decide +kernel⟩
theorem blkUn : BlkOk ["jar", "first", "second", "made", "at", "under", "due", "k"] (defScope sRight) (blkS "under") [("k", 7)] := ⟨rfl, by decide +kernel, by decide +kernel, by decide +kernel, by decide +kernel⟩
theorem map_snoc {f : Nat → Da} {n : Nat} : ((List.range n).map f) ++ [f n] = (List.range (n + 1)).map f := by
  rw [List.range_succ, List.map_append]
  rfl
section
variable {ca : Str → Addr} {P : Program} {w : World} {K : PySem.W.Frag} {mg : Str → Option Value} {base : Heap}
theorem ok_right {f f1 f2 f3 f4 f5 f6 f7 f8 : Addr} {fd fd1 fd2 fd3 fd4 fd5 fd6 fd7 fd8 : FuncData} (F : Fun K "_law_right" "_law_right" sRight f fd) (B : Tb mg) (T : Tk K mg ca) (D1 : Dd K mg "_law_dip" sDip ["jar", "wide"] f1 fd1) (D2 : Dd K mg "_law_pick" sPick ["jar", "menu"] f2 fd2)
    (D3 : Dd K mg "_law_odd" sOdd ["jar"] f3 fd3) (D4 : Dd K mg "_law_by_place" sPlace ["first", "second"] f4 fd4) (D5 : Dd K mg "_law_by_word" sWord ["first", "second"] f5 fd5) (D6 : Dd K mg "_law_sorts" sSorts ["e"] f6 fd6) (D7 : Dd K mg "_law_bases" sBases ["e"] f7 fd7)
    (D8 : Dd K mg "_law_kept" sKept ["e", "at"] f8 fd8) : FnG P w K mg base CX0 4 f fd ["jar"] (spJ ca K 0 fRight) := by
  have mi := B.int
  refine fnJ F scRight rfl (fun cdv A outer s H E js ds kd gd hr hl hφ => ?_) m_right
  obtain ⟨a, b, c, rfl, rfl, hk⟩ := hφ
  have hu := hr.units
  have hu2 := hr.un
  have hu7 : (A.deeper (envOfC "_law_right" (defScope sRight) s.heap.objs.size f cdv)).units + 70 < cLine := by omega
  refine ab_cons (as_par 1 2 rfl scRight.nd rfl rfl (by decide) rfl rfl (Nat.le_of_ble_eq_true rfl) (Nat.le_of_ble_eq_true rfl) ?_)
  refine aa_cons ?_
  refine ax_callJ (ok_odd D3.F B D1.F D1.g D1.b D2.F D2.g D2.b) gd hr rfl D3.g D3.F.kp D3.b ?_ (mono := m_odd)
  walk_at "go"
  refine ⟨0, _, rfl, rfl, _, rfl, a, b, c, rfl, rfl, fun d1 hd1 a1 b1 c1 => ?_⟩
  refine aa_cons ?_
  refine ax_callJ (ok_odd D3.F B D1.F D1.g D1.b D2.F D2.g D2.b) gd hr rfl D3.g D3.F.kp D3.b ?_ (mono := m_odd)
  walk_at "go"
  refine ⟨0, _, rfl, rfl, _, rfl, a1, b1, c1, rfl, rfl, fun d2 hd2 a2 b2 c2 => ?_⟩
  walk_at "go"
  refine ⟨d1, d2, rfl, ?_⟩
  have r1 := List.all_eq_true.mp menu_ok d1 hd1
  have r2 := List.all_eq_true.mp menu_ok d2 hd2
  refine ab_cons (as_list rfl PassesOwn.never (pg_name (i := 3) scRight.nd rfl (Or.inl rfl)) tg_name ?_)
  refine ax_lst (aa_cons ?_)
  refine ax_callP (ok_Place D4.F T) gd (hr.mono (by decide)) rfl D4.g D4.F.kp D4.b ?_ (mono := m_mk)
  walk_at "go"
  refine ⟨rfl, d1, d2, rfl, ?_⟩
  refine aa_cons ?_
  refine ax_callP (ok_Word D5.F T) gd (hr.mono (by decide)) rfl D5.g D5.F.kp D5.b ?_ (mono := m_mk)
  walk_at "go"
  refine ⟨rfl, d1, d2, rfl, ?_⟩
  walk_at "go"
  refine ⟨_, .inl rfl, fun i e c => c = [some [.int a2, .int b2, .int c2]] ∧ ∃ y3 y4 y5 y6, e = [some (.ow 0), some (.im d1), some (.im d2), y3, y4, y5, y6, none], ⟨rfl, _, _, _, _, rfl⟩, ?_, ?_⟩
  · rintro i d e c hd ⟨rfl, y3, y4, y5, y6, rfl⟩
    have ed : d = .lst (errs d1 d2) := by
      rcases i with _ | _ | i
      · exact (Option.some.inj hd).symm
      · exact (Option.some.inj hd).symm
      · cases hd
    subst ed
    refine ⟨Nat.le_of_ble_eq_true rfl, ?_⟩
    refine ab_cons (as_set 3 scRight.nd rfl (.inl rfl) (Nat.le_of_ble_eq_true rfl) ?_)
    walk_at "go"
    refine ax_mk0 (c := "NoWay") (T.x0 "NoWay" (by decide +kernel)) rfl (T.g "NoWay" (by decide +kernel)) ?_
    refine aa_cons ?_
    refine ax_mk0 (c := "NothingToUndo") (T.x0 "NothingToUndo" (by decide +kernel)) rfl (T.g "NothingToUndo" (by decide +kernel)) ?_
    walk_at "go"
    refine ab_one (as_range rfl PassesOwn.never rfl B.rng (pg_name (i := 4) scRight.nd rfl (Or.inr rfl)) tg_name ?_)
    walk_at "go"
    refine ⟨by decide, by decide, fun i e c => c = [some [.int a2, .int b2, .int c2]] ∧ ∃ y4 y5 y6, e = [some (.ow 0), some (.im d1), some (.im d2), some (.im (.lst (errs d1 d2 ++ noD))), y4, y5, y6, none], ⟨rfl, _, _, _, rfl⟩, ?_, ?_⟩
    · rintro t e c ht ⟨rfl, y4, y5, y6, rfl⟩
      have ht' : t < 17 := by omega
      obtain ⟨c, ks, l, hf, hs, hkl⟩ := full_at d1 d2 t ht'
      have mem : c ∈ all20 := in20 c (List.mem_of_getElem? hs)
      refine ⟨Nat.le_of_ble_eq_true rfl, ?_⟩
      refine ab_cons (as_if (at_ne hu ?_))
      refine ax_callP (ok_sorts D6.F B T) gd (hr.mono (by decide)) rfl D6.g D6.F.kp D6.b ?_ (mono := m_sorts)
      walk_at "go"
      refine lIx (atI_of rfl hf) ?_
      walk_at "go"
      refine ⟨rfl, c, ks, l, rfl, mem, ?_⟩
      refine ax_al (al_lcR (own := [("k", 7)]) 7 rfl scRight.nd rfl B.rng blkAt (by decide) (Nat.le_of_ble_eq_true rfl) ?_ (fun _ _ _ _ _ => pg_name (i := 7) scRight.nd rfl (Or.inl rfl)) ?_)
      · rintro j hj v ev
        obtain rfl : j = 7 := by simpa using hj
        cases ev
      walk_at "go"
      refine ⟨by decide, by decide, fun n acc c => c = [some [.int a2, .int b2, .int c2]] ∧ acc = (List.range n).map fun j : Nat => Da.bl ((j : Int) == (t : Int)), ⟨rfl, rfl⟩, ?_, ?_⟩
      · rintro n acc _ hn ⟨rfl, rfl⟩
        intro s' H' Cc cl fp
        refine ax_eq hu ?_
        walk_at "go"
        refine ⟨_, rfl, ?_, rfl, map_snoc⟩
        rw [List.length_map, List.length_range]
        omega
      rintro acc _ ⟨rfl, rfl⟩
      have e1 : sortsD c = (List.range 17).map fun j : Nat => Da.bl ((j : Int) == (t : Int)) := by
        have z := congrArg (List.map Da.bl) (sorts_eq hs)
        rw [List.map_map, List.map_map] at z
        exact z
      have ok1 := bl_shaped ((List.range 17).map fun j : Nat => ((j : Int) == (t : Int)))
      rw [List.map_map] at ok1
      refine ne_same (congrArg (fun l => some (Da.lst l)) e1) rfl ok1 ?_
      refine ⟨_, rfl, fun z => (Bool.false_ne_true z).elim, fun _ => ab_nil ?_⟩
      have ue := und_eq hs
      refine ab_cons (as_set 5 scRight.nd rfl (.inr rfl) (Nat.le_of_ble_eq_true rfl) ?_)
      refine ax_to (fun a c1 => c1 = [some [.int a2, .int b2, .int c2]] ∧ a = .im (.int (undr c : Int))) ?_ ?_
      · refine ax_if ?_
        walk_at "go"
        refine ⟨fun z => ?_, fun z => ?_⟩
        · walk_at "go"
          exact ⟨rfl, by rw [ue, if_pos (of_decide_eq_true z)]⟩
        · refine ax_if (at_eq hu ?_)
          walk_at "go"
          rw [if_neg (of_decide_eq_false z)] at ue
          refine ⟨fun z2 => ?_, fun z2 => ?_⟩
          · walk_at "go"
            exact ⟨rfl, by rw [ue, if_pos (beq_iff_eq.mp z2)]⟩
          · walk_at "go"
            exact ⟨rfl, by rw [ue, if_neg (beq_eq_false_iff_ne.mp z2)]⟩
      rintro _ _ ⟨rfl, rfl⟩
      refine ab_cons (as_if (at_ne hu ?_))
      refine ax_callP (ok_bases D7.F B T) gd (hr.mono (by decide)) rfl D7.g D7.F.kp D7.b ?_ (mono := m_bases)
      walk_at "go"
      refine lIx (atI_of rfl hf) ?_
      walk_at "go"
      refine ⟨rfl, c, ks, l, rfl, mem, ?_⟩
      refine ax_al (al_lcR (own := [("k", 7)]) 7 rfl scRight.nd rfl B.rng blkUn (by decide) (Nat.le_of_ble_eq_true rfl) ?_ (fun _ _ _ _ _ => pg_name (i := 7) scRight.nd rfl (Or.inl rfl)) ?_)
      · rintro j hj v ev
        obtain rfl : j = 7 := by simpa using hj
        cases ev
      walk_at "go"
      refine ⟨by decide, by decide, fun n acc c1 => c1 = [some [.int a2, .int b2, .int c2]] ∧ acc = (List.range n).map fun j : Nat => Da.bl ((j : Int) == (undr c : Int)), ⟨rfl, rfl⟩, ?_, ?_⟩
      · rintro n acc _ hn ⟨rfl, rfl⟩
        intro s' H' Cc cl fp
        refine ax_eq hu ?_
        walk_at "go"
        refine ⟨_, rfl, ?_, rfl, map_snoc⟩
        rw [List.length_map, List.length_range]
        omega
      rintro acc _ ⟨rfl, rfl⟩
      have e2 : basesD c = (List.range 3).map fun j : Nat => Da.bl ((j : Int) == (undr c : Int)) := by
        have z := congrArg (List.map Da.bl) (bases_eq c _ rfl)
        rw [List.map_map] at z
        exact z
      have ok2 := bl_shaped ((List.range 3).map fun j : Nat => ((j : Int) == (undr c : Int)))
      rw [List.map_map] at ok2
      refine ne_same (congrArg (fun l => some (Da.lst l)) e2) rfl ok2 ?_
      refine ⟨_, rfl, fun z => (Bool.false_ne_true z).elim, fun _ => ab_nil ?_⟩
      refine ab_cons (as_set 6 scRight.nd rfl (.inl rfl) (Nat.le_of_ble_eq_true rfl) ?_)
      refine ax_to (fun a c1 => c1 = [some [.int a2, .int b2, .int c2]] ∧ a = .im (if t % 2 = 0 then d1 else d2)) ?_ ?_
      · refine ax_if (at_eq hu ?_)
        walk_at "go"
        refine iOp (by decide) ?_
        walk_at "go"
        refine ⟨fun z => ?_, fun z => ?_⟩
        · walk_at "go"
          have := beq_iff_eq.mp z
          exact ⟨rfl, by rw [if_pos (by omega)]⟩
        · walk_at "go"
          have := beq_eq_false_iff_ne.mp z
          exact ⟨rfl, by rw [if_neg (by omega)]⟩
      rintro _ _ ⟨rfl, rfl⟩
      refine ab_one (as_if ?_)
      walk_at "go"
      refine ⟨fun z => ?_, fun _ => ⟨fun z => (Bool.false_ne_true z).elim, fun _ => ab_nil ⟨rfl, _, _, _, rfl⟩⟩⟩
      have lt : t < 15 := by
        have := of_decide_eq_true z
        omega
      obtain ⟨rfl, rfl⟩ := hkl lt
      refine aw_and1 (at_ne hu ?_)
      refine ax_repr gd hu7 rfl B.rpr (aa_cons ?_)
      refine ax_callP (ok_kept D8.F T) gd (hr.mono (by decide)) rfl D8.g D8.F.kp D8.b ?_ (mono := m_kept)
      refine aa_cons ?_
      refine ax_ix ?_
      walk_at "go"
      refine lIx (atI_of rfl hf) ?_
      walk_at "go"
      refine ⟨rfl, t, c, _, rfl, by rw [List.getElem?_take, if_pos lt]; exact hs, ?_⟩
      walk_at "go"
      have rr : rOk (if t % 2 = 0 then d1 else d2) = true := by
        split
        · exact r1
        · exact r2
      refine rpr_of rr ?_
      refine ax_repr gd hu7 rfl B.rpr (aa_cons ?_)
      walk_at "go"
      refine rpr_of rr ?_
      walk_at "go"
      rw [decide_eq_true rfl]
      exact ⟨fun z => (Bool.false_ne_true z).elim, fun _ => ab_nil ⟨rfl, _, _, _, rfl⟩⟩
    · rintro e c ⟨rfl, y4, y5, y6, rfl⟩
      exact ⟨rfl, _, _, _, _, rfl⟩
  · rintro e c ⟨rfl, y3, y4, y5, y6, rfl⟩
    refine ab_one (as_ret ?_)
    walk_at "go"
    exact ⟨_, _, _, rfl, rfl, hk _ _ _⟩
end
end K01

namespace K01
abbrev sLaw : Stmt := topS 37
theorem scLaw : FnScope ["script", "plain_ones", "e", "k"] ["script"] (defScope sLaw) := ⟨rfl, rfl, rfl, by decide +kernel, rfl, by decide +kernel, by decide +kernel⟩
def fLaw : Ph := fun ds k kx => ∃ ns, ds = [.scr ns] ∧ ns.length ≤ 63 ∧ k (.bl true)
theorem m_law : ∀ ds k1 k2 x1 x2, fLaw ds k1 x1 → (∀ d, k1 d → k2 d) → (∀ c ks es, x1 c ks es → x2 c ks es) → fLaw ds k2 x2 := by
  rintro ds k1 k2 x1 x2 ⟨ns, h1, h2, h3⟩ h _
  exact ⟨ns, h1, h2, h _ h3⟩
structure Tl (mg : Str → Option Value) : Prop where
  m1 : ∃ t, mg "MOST_ROADS" = some (.int 8 t)
  m2 : ∃ t, mg "MOST_COST" = some (.int 1000000 t)
  m3 : ∃ t, mg "MOST_AMOUNT" = some (.int 1000000 t)
  m4 : ∃ t, mg "MOST_PART" = some (.int 1000 t)
  m5 : ∃ t, mg "MOST_CLOSED" = some (.int 3 t)
def blkE : Scope := { kind := ScopeKind.function, names := [(".0", .local), ("e", .local), ("_law_bases", .globalImplicit)], isGenerator := false, isCoroutine := false, more := [] }
theorem blkEk : BlkOk ["script", "plain_ones", "e", "k"] (defScope sLaw) blkE [("e", 2)] := ⟨rfl, by decide +kernel, by decide +kernel, by decide +kernel, by decide +kernel⟩
def blkK : Scope := { kind := ScopeKind.function, names := [(".0", .local), ("k", .local), ("_law_right", .globalImplicit), ("_law_jar", .globalImplicit), ("script", .free)], isGenerator := false, isCoroutine := false, more := [] }
theorem blkKk : BlkOk ["script", "plain_ones", "e", "k"] (defScope sLaw) blkK [("k", 3)] := ⟨rfl, by decide +kernel, by decide +kernel, by decide +kernel, by decide +kernel⟩
def limD : Da := .lst [.int 8, .int 1000000, .int 1000000, .int 1000, .int 3]
theorem lim_ok : okP limD = true ∧ SeqAt.shaped (toP limD) = true := by decide +kernel
def plN : List Str := ["WrongValue", "WrongName", "NotPossible"]
def plD : Da := .lst (plN.map fun c => .lst (basesD c))
theorem pl_ok : okP plD = true ∧ SeqAt.shaped (toP plD) = true := by decide +kernel
theorem pl20 : ∀ c ∈ plN, c ∈ all20 := by decide +kernel
theorem take_snoc {α : Type} {l : List α} {n : Nat} {a : α} (h : l[n]? = some a) : l.take n ++ [a] = l.take (n + 1) := by
  rw [List.take_add_one, h]
  rfl
section
variable {ca : Str → Addr} {P : Program} {w : World} {K : PySem.W.Frag} {mg : Str → Option Value} {base : Heap}
theorem ok_law {f f0 f1 f2 f3 f4 f5 f6 f7 f8 f9 : Addr} {fd fd0 fd1 fd2 fd3 fd4 fd5 fd6 fd7 fd8 fd9 : FuncData} (F : Fun K "law" "law" sLaw f fd) (L : Tl mg) (B : Tb mg) (T : Tk K mg ca) (D0 : Dd K mg "_law_jar" sJar ["script", "k"] f0 fd0) (D1 : Dd K mg "_law_dip" sDip ["jar", "wide"] f1 fd1) (D2 : Dd K mg "_law_pick" sPick ["jar", "menu"] f2 fd2)
    (D3 : Dd K mg "_law_odd" sOdd ["jar"] f3 fd3) (D4 : Dd K mg "_law_by_place" sPlace ["first", "second"] f4 fd4) (D5 : Dd K mg "_law_by_word" sWord ["first", "second"] f5 fd5) (D6 : Dd K mg "_law_sorts" sSorts ["e"] f6 fd6) (D7 : Dd K mg "_law_bases" sBases ["e"] f7 fd7)
    (D8 : Dd K mg "_law_kept" sKept ["e", "at"] f8 fd8) (D9 : Dd K mg "_law_right" sRight ["jar"] f9 fd9) : FnG P w K mg base CX0 5 f fd ["script"] (spP ca K 1 fLaw) := by
  have ml := B.len
  refine fnP F scLaw rfl (fun cdv A outer s H E ds kd gd hr hl hφ => ?_) m_law
  obtain ⟨ns, rfl, hz, hk⟩ := hφ
  have hu := hr.units
  obtain ⟨t1, g1⟩ := L.m1
  obtain ⟨t2, g2⟩ := L.m2
  obtain ⟨t3, g3⟩ := L.m3
  obtain ⟨t4, g4⟩ := L.m4
  obtain ⟨t5, g5⟩ := L.m5
  refine ab_cons (as_if (at_ne hu ?_))
  refine ax_lst ?_
  refine aa_cons (ax_gint rfl g1 ?_)
  refine aa_cons (ax_gint rfl g2 ?_)
  refine aa_cons (ax_gint rfl g3 ?_)
  refine aa_cons (ax_gint rfl g4 ?_)
  refine aa_cons (ax_gint rfl g5 ?_)
  walk_at "go"
  refine ne_same (d := limD) rfl rfl lim_ok ?_
  refine ⟨_, rfl, fun z => (Bool.false_ne_true z).elim, fun _ => ab_nil ?_⟩
  refine ab_cons (as_set 1 scLaw.nd rfl (.inl rfl) (Nat.le_of_ble_eq_true rfl) ?_)
  refine ax_lst ?_
  refine aa_cons (ax_mk0 (c := "WrongValue") (T.x0 "WrongValue" (by decide +kernel)) rfl (T.g "WrongValue" (by decide +kernel)) ?_)
  refine aa_cons (ax_mk0 (c := "WrongName") (T.x0 "WrongName" (by decide +kernel)) rfl (T.g "WrongName" (by decide +kernel)) ?_)
  refine aa_cons (ax_mk0 (c := "NotPossible") (T.x0 "NotPossible" (by decide +kernel)) rfl (T.g "NotPossible" (by decide +kernel)) ?_)
  walk_at "go"
  refine ab_cons (as_if (at_ne hu ?_))
  refine ax_al (al_lcL (own := [("e", 2)]) 2 rfl scLaw.nd blkEk (by decide) (Nat.le_of_ble_eq_true rfl) ?_ (fun _ _ _ _ _ => pg_name (i := 2) scLaw.nd rfl (Or.inl rfl)) ?_)
  · rintro j hj v ev
    obtain rfl : j = 2 := by simpa using hj
    cases ev
  walk_at "go"
  refine ⟨plN.map fun c => Da.exc c [] [], rfl, fun n acc c1 => c1 = [] ∧ acc = (plN.take n).map fun c => Da.lst (basesD c), ⟨rfl, rfl⟩, ?_, ?_⟩
  · rintro n d acc _ hd ⟨rfl, rfl⟩
    rw [List.getElem?_map] at hd
    obtain ⟨c, hc, ed⟩ := Option.map_eq_some_iff.mp hd
    subst ed
    intro s' H' Cc cl fp
    refine ax_callP (ok_bases D7.F B T) gd (hr.mono (by decide)) rfl D7.g D7.F.kp D7.b ?_ (mono := m_bases)
    walk_at "go"
    refine ⟨rfl, c, [], [], rfl, pl20 c (List.mem_of_getElem? hc), ?_⟩
    refine ⟨_, rfl, ?_, rfl, ?_⟩
    · rw [List.length_map, List.length_take]
      exact Nat.lt_of_le_of_lt (Nat.min_le_right _ _) (by decide)
    · rw [← take_snoc hc, List.map_append]
      rfl
  rintro acc _ ⟨rfl, rfl⟩
  walk_at "go"
  refine ne_same (d := plD) rfl rfl pl_ok ?_
  refine ⟨_, rfl, fun z => (Bool.false_ne_true z).elim, fun _ => ab_nil ?_⟩
  refine ab_one (as_ret ?_)
  refine ax_all rfl rfl B.all (aa_cons ?_)
  refine ax_al (al_lcR (own := [("k", 3)]) 3 rfl scLaw.nd rfl B.rng blkKk (by decide) (Nat.le_of_ble_eq_true rfl) ?_ (fun _ _ _ _ _ => pg_name (i := 3) scLaw.nd rfl (Or.inl rfl)) ?_)
  · rintro j hj v ev
    obtain rfl : j = 3 := by simpa using hj
    cases ev
  refine ax_max2 rfl rfl B.max ?_
  walk_at "go"
  refine ax_min2 rfl rfl B.min ?_
  walk_at "go"
  obtain ⟨m, hm, em⟩ : ∃ m : Nat, m ≤ 4 ∧ (m : Int) = (if (if (4 : Int) < (ns.length : Int) then (4 : Int) else (ns.length : Int)) > 2 then (if (4 : Int) < (ns.length : Int) then (4 : Int) else (ns.length : Int)) else 2) := by
    by_cases h1 : (4 : Int) < (ns.length : Int)
    · exact ⟨4, by decide, by rw [if_pos h1, if_pos (by decide)]; rfl⟩
    · rw [if_neg h1]
      by_cases h2 : (ns.length : Int) > 2
      · exact ⟨ns.length, by omega, by rw [if_pos h2]⟩
      · exact ⟨2, by decide, by rw [if_neg h2]; rfl⟩
  rw [← em]
  refine ⟨by omega, by omega, fun n acc c1 => c1 = [] ∧ acc = (List.replicate n true).map Da.bl, ⟨rfl, rfl⟩, ?_, ?_⟩
  · rintro n acc _ hn ⟨rfl, rfl⟩
    intro s' H' Cc cl fp
    refine ax_callJ1 (ok_right D9.F B T D1 D2 D3 D4 D5 D6 D7 D8) gd hr rfl D9.g D9.F.kp D9.b ?_ (mono := m_right)
    refine al_callF (ok_jar D0.F B) gd (hr.mono (by decide)) rfl D0.g D0.F.kp D0.b ?_ (mono := m_jar)
    walk_at "go"
    refine ⟨rfl, ns, n, rfl, by omega, fun a b c => ?_⟩
    refine ⟨a, b, c, rfl, rfl, fun _ _ _ => ?_⟩
    refine ⟨_, rfl, ?_, rfl, ?_⟩
    · rw [List.length_map, List.length_replicate]
      omega
    · rw [List.replicate_succ', List.map_append]
      rfl
  rintro acc _ ⟨rfl, rfl⟩
  walk_at "go"
  refine ⟨_, rfl, ?_⟩
  have e : (List.replicate ((m : Int).toNat) true).all id = true := by
    rw [List.all_eq_true]
    intro b hb
    rw [(List.mem_replicate.mp hb).2]
    rfl
  rw [e]
  exact ⟨_, rfl, hk⟩
end
end K01

namespace K01
open PySem.W
/-- a module's name that is an object -/
def adr (K : Frag) (n : Str) : Addr := match nsIn K mainGlobals n with
  | some (some (.ref a)) => a
  | _ => 0
def iniOf (K : Frag) (c : Str) : Addr := match findIn K (.ref (adr K c)) "__init__" with
  | some (some (.ref a)) => a
  | _ => 0
def tlB (b : String) : List Value := [.type b, .type "Exception", .type "BaseException", .type "object"]
/-- what a class of errors must have -/
def xcB (K : Frag) (c : Str) : Bool :=
  excInitIn K (adr K c) (tlB (lgN (undr c))) (lgN (undr c) ++ ".__new__") && (excOver K (adr K c) (tlB (lgN (undr c))) && (hasDictIn K (adr K c) &&
  (findIn K (.ref (adr K c)) "__setattr__" == some (some (.builtin "object.__setattr__")) && (findIn K (.ref (adr K c)) "__getattribute__" == some (some (.builtin "BaseException.__getattribute__")) && (findIn K (.ref (adr K c)) "__getattr__" == some none &&
  (subIn K (.ref (adr K c)) (.type "BaseException") == some true && (findIn K (.ref (adr K c)) "__class__" == some (some (.builtin "object.__class__")) && (mroIn K (adr K c) (.type "object") == some true && (keepIn K (.ref (adr K c)) &&
  (nsIn K mainGlobals c == some (some (.ref (adr K c)))))))))))))
def iniB (K : Frag) (c : Str) : Bool := findIn K (.ref (adr K c)) "__init__" == some (some (.builtin (lgN (undr c) ++ ".__init__")))
def attB (K : Frag) (c : Str) : Bool := findIn K (.ref (adr K c)) "__init__" == some (some (.ref (iniOf K c))) && (typeIn K (.ref (iniOf K c)) == some (.type "function") && findIn K (.ref (adr K c)) (attN c) == some none)
def kitB (K : Frag) : Bool := all20.all fun c => (all20.all fun d => kitOne K (.ref (adr K c)) (.ref (adr K d)) == sb c (.cl d)) && ((["ValueError", "LookupError", "ArithmeticError"] : List String).all fun n => kitOne K (.ref (adr K c)) (.type n) == sb c (.ty n))
def getB (K : Frag) : Bool := specialIn K (.builtin "object.__class__") "__get__" == some (some (.builtin "getset_descriptor.__get__")) && takesIn K (.builtin "object.__class__") == some true
def blN : List Str := ["int", "abs", "len", "isinstance", "repr", "range", "max", "min", "all", "ValueError", "LookupError", "ArithmeticError"]
def pln5 : List Str := ("NoWay" : Str) :: "NothingToUndo" :: all20.drop 17
/-- all that is asked of the written part, but the texts of the defs -/
def allB (K : Frag) : Bool := all20.all (xcB K) && (pln5.all (iniB K) && ((srt17.take 15).all (attB K) && (kitB K && (getB K && blN.all fun n => nsIn K mainGlobals n == some none))))
theorem mk3 (b : Nat) : (b = 0 ∨ b = 1 ∨ b = 2) → ∃ iid, iid = lgN b ++ ".__init__" ∧ ExcBaseFacts (lgN b) (lgN b ++ ".__new__") iid (tlB (lgN b)) ∧ StoreFacts (lgN b) (tlB (lgN b)) "object.__setattr__" "object" ∧
    ∀ C vs kw, Bind.checkArgs (lgN b ++ ".__new__") ⟨.any, lgN b, lgN b, .cls, [⟨"args", .varPos, false⟩, ⟨"kwargs", .varKw, false⟩]⟩ ⟨.ref C :: vs, kw⟩ = pure () := by
  rintro (rfl | rfl | rfl)
  · exact ⟨_, rfl, F.excBase_ValueError, F.store_ValueError, fun C vs kw => by first | rfl | kernel_rfl⟩
  · exact ⟨_, rfl, F.excBase_LookupError, F.store_LookupError, fun C vs kw => by first | rfl | kernel_rfl⟩
  · exact ⟨_, rfl, F.excBase_ArithmeticError, F.store_ArithmeticError, fun C vs kw => by first | rfl | kernel_rfl⟩
theorem und3 : ∀ c ∈ all20, undr c = 0 ∨ undr c = 1 ∨ undr c = 2 := by decide +kernel
theorem spl20 : ∀ c ∈ all20, c ∈ pln5 ∨ c ∈ srt17.take 15 := by decide +kernel
/-- the class's own __init__, its text -/
structure XF (K : Frag) (c : Str) : Prop where
  fn : ∃ oc od kV doc pm an cdv ct osl ql p1 p2 p3 p4 p5 p6, K.lookup (iniOf K c) = some ⟨oc, od, .func (fnOf "__init__" ql (iArg (attN c) p1 p2) (iBdy (attN c) p3 p4 p5 p6) (iScp (attN c)) .none kV doc pm an cdv ct), osl⟩ ∧ codeIn K cdv ql = true
theorem sb_cl {c d : Str} {z : Bool} (h : sb c (.cl d) = some z) : c ∈ all20 ∧ d ∈ all20 := by
  have h' : (if all20.contains c && all20.contains d then some (d == c || d == bsN (undr c)) else none) = some z := h
  by_cases m : (all20.contains c && all20.contains d) = true
  · rw [Bool.and_eq_true] at m
    exact ⟨List.contains_iff_mem.mp m.1, List.contains_iff_mem.mp m.2⟩
  · rw [if_neg m] at h'
    cases h'
theorem sb_ty {c : Str} {n : String} {z : Bool} (h : sb c (.ty n) = some z) : c ∈ all20 ∧ n ∈ (["ValueError", "LookupError", "ArithmeticError"] : List String) := by
  have h' : (if all20.contains c && (n == "ValueError" || n == "LookupError" || n == "ArithmeticError") then some (n == lgN (undr c)) else none) = some z := h
  by_cases m : (all20.contains c && (n == "ValueError" || n == "LookupError" || n == "ArithmeticError")) = true
  · simp only [Bool.and_eq_true, Bool.or_eq_true, beq_iff_eq] at m
    refine ⟨List.contains_iff_mem.mp m.1, ?_⟩
    rcases m.2 with (e | e) | e <;> rw [e] <;> simp
  · rw [if_neg m] at h'
    cases h'
theorem tk_mk {K : Frag} {h : Heap} {mg : Str → Option Value} (X : K.In h) (G : h.Ns mainGlobals mg) (ok : allB K = true) (fns : ∀ c ∈ srt17.take 15, XF K c) : Tk K mg (adr K) ∧ Tb mg := by
  unfold allB at ok
  simp only [Bool.and_eq_true, List.all_eq_true] at ok
  obtain ⟨o1, o2, o3, o4, o5, o6⟩ := ok
  have xc : ∀ c ∈ all20, XC K (adr K c) ∧ nsIn K mainGlobals c = some (some (.ref (adr K c))) := by
    intro c hc
    have z := o1 c hc
    unfold xcB at z
    simp only [Bool.and_eq_true, beq_iff_eq] at z
    obtain ⟨z1, z2, z3, z4, z5, z6, z7, z8, z9, z10, z11⟩ := z
    obtain ⟨iid, ei, FB, SF, ar⟩ := mk3 (undr c) (und3 c hc)
    refine ⟨⟨⟨_, _, iid, _, FB, SF, z1, z2, ar (adr K c), ?_⟩, z3, z4, z5, z6, z7, z8, z9, z10⟩, z11⟩
    rcases spl20 c hc with m | m
    · have y := o2 c m
      unfold iniB at y
      rw [beq_iff_eq] at y
      left
      rw [ei]
      exact y
    · have y := o3 c m
      unfold attB at y
      simp only [Bool.and_eq_true, beq_iff_eq] at y
      exact .inr ⟨_, y.1⟩
  unfold getB at o5
  simp only [Bool.and_eq_true, beq_iff_eq] at o5
  unfold kitB at o4
  simp only [Bool.and_eq_true, List.all_eq_true, beq_iff_eq] at o4
  refine ⟨⟨⟨o5.1, o5.2, ?_, ?_⟩, fun c hc => (xc c hc).1, ?_, ?_, fun c hc => mg_of X G (xc c hc).2⟩, ?_⟩
  · intro c d z hz
    have m := sb_cl hz
    rw [(o4 c m.1).1 d m.2]
    exact hz
  · intro c n z hz
    have m := sb_ty hz
    rw [(o4 c m.1).2 n m.2]
    exact hz
  · intro c hc
    have y := o3 c hc
    unfold attB at y
    simp only [Bool.and_eq_true, beq_iff_eq] at y
    exact ⟨iniOf K c, (xc c (in20' c hc)).1, y.1, y.2.1, y.2.2, (fns c hc).fn⟩
  · intro c hc
    have hc20 : c ∈ all20 := by
      have : ∀ c ∈ pln5, c ∈ all20 := by decide +kernel
      exact this c hc
    have z := o1 c hc20
    unfold xcB at z
    simp only [Bool.and_eq_true, beq_iff_eq] at z
    have y := o2 c hc
    unfold iniB at y
    rw [beq_iff_eq] at y
    obtain ⟨iid, ei, FB, _, _⟩ := mk3 (undr c) (und3 c hc20)
    refine ⟨(xc c hc20).1, _, _, iid, _, FB, z.1, ?_⟩
    rw [ei]
    exact y
  · have no : ∀ n ∈ blN, mg n = none := fun n hn => mg_none_of X G (beq_iff_eq.mp (o6 n hn))
    constructor <;> exact no _ (by decide +kernel)
def isI (K : Frag) (n : Str) (i : Int) : Bool := match nsIn K mainGlobals n with
  | some (some (.int j _)) => j == i
  | _ => false
theorem isI_of {K : Frag} {h : Heap} {mg : Str → Option Value} (X : K.In h) (G : h.Ns mainGlobals mg) {n : Str} {i : Int} (e : isI K n i = true) : ∃ t, mg n = some (.int i t) := by
  unfold isI at e
  split at e
  · rename_i j t q
    rw [beq_iff_eq] at e
    subst e
    exact ⟨t, mg_of X G q⟩
  · cases e
def limB (K : Frag) : Bool := isI K "MOST_ROADS" 8 && (isI K "MOST_COST" 1000000 && (isI K "MOST_AMOUNT" 1000000 && (isI K "MOST_PART" 1000 && isI K "MOST_CLOSED" 3)))
theorem tl_mk {K : Frag} {h : Heap} {mg : Str → Option Value} (X : K.In h) (G : h.Ns mainGlobals mg) (e : limB K = true) : Tl mg := by
  unfold limB at e
  simp only [Bool.and_eq_true] at e
  exact ⟨isI_of X G e.1, isI_of X G e.2.1, isI_of X G e.2.2.1, isI_of X G e.2.2.2.1, isI_of X G e.2.2.2.2⟩
theorem dd_mk {K : Frag} {h : Heap} {mg : Str → Option Value} (X : K.In h) (G : h.Ns mainGlobals mg) {nm : Str} {st : Stmt} {ps : List Str} {f : Addr} {oc : Value} {od an : Option Addr} {osl : Array (Option Value)} {kV doc pm cdv ct : Value} (a : nsIn K mainGlobals nm = some (some (.ref f)))
    (l : K.lookup f = some ⟨oc, od, .func (fnOf nm nm (defArgs st) (defBody st) (defScope st) .none kV doc pm an cdv ct), osl⟩) (c : codeIn K cdv nm = true) (k : keepIn K (.ref f) = true)
    (b : ∀ (kV doc pm : Value) (an : Option Addr) (cdv ct : Value) (us : List Value), us.length = ps.length → bindArgs (fnOf nm nm (defArgs st) (defBody st) (defScope st) .none kV doc pm an cdv ct) ⟨us, []⟩ = pure (ps.zip us)) : ∃ f fd, Dd K mg nm st ps f fd :=
  have F := fun_mk (st := st) l c k
  ⟨_, _, F, mg_of X G a, F.binds b⟩
/-- the def in a class's body -/
def iniS (i : Nat) : Stmt := match topS i with
  | .ClassDef _ _ _ b _ _ _ _ _ _ _ => b.headD (.Pass ⟨0, 0, 0, 0⟩)
  | _ => .Pass ⟨0, 0, 0, 0⟩
theorem xf_mk {K : Frag} {c : Str} {st : Stmt} {ql : Str} {C f : Addr} {oc : Value} {od an : Option Addr} {osl : Array (Option Value)} {kV doc pm cdv ct : Value} (a : nsIn K mainGlobals c = some (some (.ref C))) (i : findIn K (.ref C) "__init__" = some (some (.ref f)))
    (l : K.lookup f = some ⟨oc, od, .func (fnOf "__init__" ql (defArgs st) (defBody st) (defScope st) .none kV doc pm an cdv ct), osl⟩) (cc : codeIn K cdv ql = true)
    (sh : ∃ p1 p2 p3 p4 p5 p6, defArgs st = iArg (attN c) p1 p2 ∧ defBody st = iBdy (attN c) p3 p4 p5 p6 ∧ defScope st = iScp (attN c)) : XF K c := by
  have e1 : adr K c = C := by
    unfold adr
    rw [a]
  have e2 : iniOf K c = f := by
    unfold iniOf
    rw [e1, i]
  obtain ⟨p1, p2, p3, p4, p5, p6, s1, s2, s3⟩ := sh
  rw [s1, s2, s3] at l
  exact ⟨_, _, _, _, _, _, _, _, _, _, _, _, _, _, _, _, by rw [e2]; exact l, cc⟩
end K01

open PySem PySem.W PyProof.Rows in
set_option maxHeartbeats 0 in
open_top hd1 for PySem.Challenge.rw_closedroads_k01_limits_and_errors
open PySem PySem.W PyProof.Rows
set_option maxHeartbeats 0
theorem k01_facts (P : Params) : K01.allB (hd1.heap_39 P) = true := by kernel_rfl
theorem k01_lims (P : Params) : K01.limB (hd1.heap_39 P) = true := by kernel_rfl
theorem PySem.Challenge.cw_closedroads_k01_limits_and_errors_holds : PySem.Challenge.rw_closedroads_k01_limits_and_errors.Holds :=
  hd1 (by
  k_fill
  refine Al.walkG (l := PySem.Challenge.rw_closedroads_k01_limits_and_errors) (n := 63) (k := 5) (x := "script") (K := hd1.heap_39) (ca := fun P => K01.adr (hd1.heap_39 P)) (φ := K01.fLaw) rfl (by decide) rfl ⟨rfl, by decide, by decide⟩ (fun w h Y => kIn_of Y) ?F ?S
  case S => exact fun ns hl p kx hp => ⟨ns, rfl, hl, hp⟩
  case F =>
    intro w mg fa h KX G hmg
    have x_InvalidText : K01.XF (hd1.heap_39 w.params) "InvalidText" := by
      refine' K01.xf_mk (st := K01.iniS 2) (ql := "InvalidText.__init__") ?a ?i ?l ?cc ⟨_, _, _, _, _, _, rfl, rfl, rfl⟩
      (case a => k_is); (case i => k_is); (case l => k_is); (case cc => k_is)
    have x_InvalidPlace : K01.XF (hd1.heap_39 w.params) "InvalidPlace" := by
      refine' K01.xf_mk (st := K01.iniS 3) (ql := "InvalidPlace.__init__") ?a ?i ?l ?cc ⟨_, _, _, _, _, _, rfl, rfl, rfl⟩
      (case a => k_is); (case i => k_is); (case l => k_is); (case cc => k_is)
    have x_InvalidCost : K01.XF (hd1.heap_39 w.params) "InvalidCost" := by
      refine' K01.xf_mk (st := K01.iniS 4) (ql := "InvalidCost.__init__") ?a ?i ?l ?cc ⟨_, _, _, _, _, _, rfl, rfl, rfl⟩
      (case a => k_is); (case i => k_is); (case l => k_is); (case cc => k_is)
    have x_InvalidWay : K01.XF (hd1.heap_39 w.params) "InvalidWay" := by
      refine' K01.xf_mk (st := K01.iniS 5) (ql := "InvalidWay.__init__") ?a ?i ?l ?cc ⟨_, _, _, _, _, _, rfl, rfl, rfl⟩
      (case a => k_is); (case i => k_is); (case l => k_is); (case cc => k_is)
    have x_InvalidAmount : K01.XF (hd1.heap_39 w.params) "InvalidAmount" := by
      refine' K01.xf_mk (st := K01.iniS 6) (ql := "InvalidAmount.__init__") ?a ?i ?l ?cc ⟨_, _, _, _, _, _, rfl, rfl, rfl⟩
      (case a => k_is); (case i => k_is); (case l => k_is); (case cc => k_is)
    have x_InvalidNumber : K01.XF (hd1.heap_39 w.params) "InvalidNumber" := by
      refine' K01.xf_mk (st := K01.iniS 7) (ql := "InvalidNumber.__init__") ?a ?i ?l ?cc ⟨_, _, _, _, _, _, rfl, rfl, rfl⟩
      (case a => k_is); (case i => k_is); (case l => k_is); (case cc => k_is)
    have x_InvalidWish : K01.XF (hd1.heap_39 w.params) "InvalidWish" := by
      refine' K01.xf_mk (st := K01.iniS 8) (ql := "InvalidWish.__init__") ?a ?i ?l ?cc ⟨_, _, _, _, _, _, rfl, rfl, rfl⟩
      (case a => k_is); (case i => k_is); (case l => k_is); (case cc => k_is)
    have x_InvalidCommand : K01.XF (hd1.heap_39 w.params) "InvalidCommand" := by
      refine' K01.xf_mk (st := K01.iniS 9) (ql := "InvalidCommand.__init__") ?a ?i ?l ?cc ⟨_, _, _, _, _, _, rfl, rfl, rfl⟩
      (case a => k_is); (case i => k_is); (case l => k_is); (case cc => k_is)
    have x_NotAWeb : K01.XF (hd1.heap_39 w.params) "NotAWeb" := by
      refine' K01.xf_mk (st := K01.iniS 10) (ql := "NotAWeb.__init__") ?a ?i ?l ?cc ⟨_, _, _, _, _, _, rfl, rfl, rfl⟩
      (case a => k_is); (case i => k_is); (case l => k_is); (case cc => k_is)
    have x_InvalidRoads : K01.XF (hd1.heap_39 w.params) "InvalidRoads" := by
      refine' K01.xf_mk (st := K01.iniS 11) (ql := "InvalidRoads.__init__") ?a ?i ?l ?cc ⟨_, _, _, _, _, _, rfl, rfl, rfl⟩
      (case a => k_is); (case i => k_is); (case l => k_is); (case cc => k_is)
    have x_InvalidLoads : K01.XF (hd1.heap_39 w.params) "InvalidLoads" := by
      refine' K01.xf_mk (st := K01.iniS 12) (ql := "InvalidLoads.__init__") ?a ?i ?l ?cc ⟨_, _, _, _, _, _, rfl, rfl, rfl⟩
      (case a => k_is); (case i => k_is); (case l => k_is); (case cc => k_is)
    have x_InvalidIndexes : K01.XF (hd1.heap_39 w.params) "InvalidIndexes" := by
      refine' K01.xf_mk (st := K01.iniS 13) (ql := "InvalidIndexes.__init__") ?a ?i ?l ?cc ⟨_, _, _, _, _, _, rfl, rfl, rfl⟩
      (case a => k_is); (case i => k_is); (case l => k_is); (case cc => k_is)
    have x_UnknownRoad : K01.XF (hd1.heap_39 w.params) "UnknownRoad" := by
      refine' K01.xf_mk (st := K01.iniS 15) (ql := "UnknownRoad.__init__") ?a ?i ?l ?cc ⟨_, _, _, _, _, _, rfl, rfl, rfl⟩
      (case a => k_is); (case i => k_is); (case l => k_is); (case cc => k_is)
    have x_TooMany : K01.XF (hd1.heap_39 w.params) "TooMany" := by
      refine' K01.xf_mk (st := K01.iniS 18) (ql := "TooMany.__init__") ?a ?i ?l ?cc ⟨_, _, _, _, _, _, rfl, rfl, rfl⟩
      (case a => k_is); (case i => k_is); (case l => k_is); (case cc => k_is)
    have x_Broken : K01.XF (hd1.heap_39 w.params) "Broken" := by
      refine' K01.xf_mk (st := K01.iniS 20) (ql := "Broken.__init__") ?a ?i ?l ?cc ⟨_, _, _, _, _, _, rfl, rfl, rfl⟩
      (case a => k_is); (case i => k_is); (case l => k_is); (case cc => k_is)
    have xf : ∀ c ∈ K01.srt17.take 15, K01.XF (hd1.heap_39 w.params) c := by
      intro c hc
      have hc' : c ∈ (["InvalidText", "InvalidPlace", "InvalidCost", "InvalidWay", "InvalidAmount", "InvalidNumber", "InvalidWish", "InvalidCommand", "NotAWeb", "InvalidRoads", "InvalidLoads", "InvalidIndexes", "UnknownRoad", "TooMany", "Broken"] : List Str) := hc
      simp only [List.mem_cons, List.not_mem_nil, or_false] at hc'
      rcases hc' with rfl | rfl | rfl | rfl | rfl | rfl | rfl | rfl | rfl | rfl | rfl | rfl | rfl | rfl | rfl
      · exact x_InvalidText
      · exact x_InvalidPlace
      · exact x_InvalidCost
      · exact x_InvalidWay
      · exact x_InvalidAmount
      · exact x_InvalidNumber
      · exact x_InvalidWish
      · exact x_InvalidCommand
      · exact x_NotAWeb
      · exact x_InvalidRoads
      · exact x_InvalidLoads
      · exact x_InvalidIndexes
      · exact x_UnknownRoad
      · exact x_TooMany
      · exact x_Broken
    obtain ⟨T, B⟩ := K01.tk_mk KX G (k01_facts w.params) xf
    obtain ⟨f0, fd0, D0⟩ : ∃ f fd, K01.Dd (hd1.heap_39 w.params) mg "_law_jar" K01.sJar ["script", "k"] f fd := by
      refine' K01.dd_mk KX G ?a ?l ?c ?k ?b
      (case a => k_is); (case l => k_is); (case c => k_is); (case k => k_is)
      (case b => exact fun _ _ _ _ _ _ us hl => match us, hl with | [_, _], _ => rfl)
    obtain ⟨f1, fd1, D1⟩ : ∃ f fd, K01.Dd (hd1.heap_39 w.params) mg "_law_dip" K01.sDip ["jar", "wide"] f fd := by
      refine' K01.dd_mk KX G ?a ?l ?c ?k ?b
      (case a => k_is); (case l => k_is); (case c => k_is); (case k => k_is)
      (case b => exact fun _ _ _ _ _ _ us hl => match us, hl with | [_, _], _ => rfl)
    obtain ⟨f2, fd2, D2⟩ : ∃ f fd, K01.Dd (hd1.heap_39 w.params) mg "_law_pick" K01.sPick ["jar", "menu"] f fd := by
      refine' K01.dd_mk KX G ?a ?l ?c ?k ?b
      (case a => k_is); (case l => k_is); (case c => k_is); (case k => k_is)
      (case b => exact fun _ _ _ _ _ _ us hl => match us, hl with | [_, _], _ => rfl)
    obtain ⟨f3, fd3, D3⟩ : ∃ f fd, K01.Dd (hd1.heap_39 w.params) mg "_law_odd" K01.sOdd ["jar"] f fd := by
      refine' K01.dd_mk KX G ?a ?l ?c ?k ?b
      (case a => k_is); (case l => k_is); (case c => k_is); (case k => k_is)
      (case b => exact fun _ _ _ _ _ _ us hl => match us, hl with | [_], _ => rfl)
    obtain ⟨f4, fd4, D4⟩ : ∃ f fd, K01.Dd (hd1.heap_39 w.params) mg "_law_by_place" K01.sPlace ["first", "second"] f fd := by
      refine' K01.dd_mk KX G ?a ?l ?c ?k ?b
      (case a => k_is); (case l => k_is); (case c => k_is); (case k => k_is)
      (case b => exact fun _ _ _ _ _ _ us hl => match us, hl with | [_, _], _ => rfl)
    obtain ⟨f5, fd5, D5⟩ : ∃ f fd, K01.Dd (hd1.heap_39 w.params) mg "_law_by_word" K01.sWord ["first", "second"] f fd := by
      refine' K01.dd_mk KX G ?a ?l ?c ?k ?b
      (case a => k_is); (case l => k_is); (case c => k_is); (case k => k_is)
      (case b => exact fun _ _ _ _ _ _ us hl => match us, hl with | [_, _], _ => rfl)
    obtain ⟨f6, fd6, D6⟩ : ∃ f fd, K01.Dd (hd1.heap_39 w.params) mg "_law_sorts" K01.sSorts ["e"] f fd := by
      refine' K01.dd_mk KX G ?a ?l ?c ?k ?b
      (case a => k_is); (case l => k_is); (case c => k_is); (case k => k_is)
      (case b => exact fun _ _ _ _ _ _ us hl => match us, hl with | [_], _ => rfl)
    obtain ⟨f7, fd7, D7⟩ : ∃ f fd, K01.Dd (hd1.heap_39 w.params) mg "_law_bases" K01.sBases ["e"] f fd := by
      refine' K01.dd_mk KX G ?a ?l ?c ?k ?b
      (case a => k_is); (case l => k_is); (case c => k_is); (case k => k_is)
      (case b => exact fun _ _ _ _ _ _ us hl => match us, hl with | [_], _ => rfl)
    obtain ⟨f8, fd8, D8⟩ : ∃ f fd, K01.Dd (hd1.heap_39 w.params) mg "_law_kept" K01.sKept ["e", "at"] f fd := by
      refine' K01.dd_mk KX G ?a ?l ?c ?k ?b
      (case a => k_is); (case l => k_is); (case c => k_is); (case k => k_is)
      (case b => exact fun _ _ _ _ _ _ us hl => match us, hl with | [_, _], _ => rfl)
    obtain ⟨f9, fd9, D9⟩ : ∃ f fd, K01.Dd (hd1.heap_39 w.params) mg "_law_right" K01.sRight ["jar"] f fd := by
      refine' K01.dd_mk KX G ?a ?l ?c ?k ?b
      (case a => k_is); (case l => k_is); (case c => k_is); (case k => k_is)
      (case b => exact fun _ _ _ _ _ _ us hl => match us, hl with | [_], _ => rfl)
    have L := K01.tl_mk KX G (k01_lims w.params)
    obtain ⟨f, fd, D⟩ : ∃ f fd, K01.Dd (hd1.heap_39 w.params) mg "law" K01.sLaw ["script"] f fd := by
      refine' K01.dd_mk KX G ?a ?l ?c ?k ?b
      (case a => k_is); (case l => k_is); (case c => k_is); (case k => k_is)
      (case b => exact fun _ _ _ _ _ _ us hl => match us, hl with | [_], _ => rfl)
    have e := hmg.symm.trans D.g
    cases e
    refine ⟨fd, fun s u => ?_, fun base _ _ => K01.ok_law D.F L B T D0 D1 D2 D3 D4 D5 D6 D7 D8 D9⟩
    obtain ⟨oc, od, kV, doc, pm, an, cdv, ct, osl, efd, lk, hcd⟩ := D.F.ex
    subst efd
    exact .of_eq rfl)
